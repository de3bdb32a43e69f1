/- Oy12 -/
import Derived.Test.YteccdnacpmbfcaaGreatDoorYA3
import Derived.Deep.AppendLies
namespace Go.Proofs.YteccdnacpmbfcaaGreatDoor
open Go.RowKit
open Ti
namespace Cn
theorem full_one {rs:List Rec} {x:Int} (h:opn rs x=[]):(full rs x).1=[x]:=by
 unfold full
 rw [walk_leaf h,if_neg (by decide)]; rfl
theorem openAll_leaves {rs:List Rec}:∀ {l:List Int},(∀ x∈l,opn rs x=[])→openAll rs l=l
 | [],_=>rfl
 | x :: l,h=>by
  have h1:=full_one (h x (by simp))
  have h2:=openAll_leaves (l:=l) (fun y hy=>h y (by simp [hy]))
  unfold openAll at h2 ⊢
  rw [List.map_cons,List.flatten_cons,h1,h2]; rfl
theorem nfd_leaves {rs:List Rec} (hk:(check rs).2=0) {xs:List Int} {x:Int} (h:x∈nfd rs xs):opn rs x=[]:=by
 have h1:=Od.ord_mem (fun c=>cls_range (check_iff.1 hk).1 c) h
 unfold openAll at h1
 obtain ⟨l,hl,hx⟩:=List.mem_flatten.1 h1
 obtain ⟨c,_,rfl⟩:=List.mem_map.1 hl
 exact (leaves hk c).2.2.2.1 x hx
theorem nfd_again {rs:List Rec} (hk:(check rs).2=0) (xs:List Int):nfd rs (nfd rs xs)=nfd rs xs:=by
 have h1:=openAll_leaves (fun x hx=>nfd_leaves hk (xs:=xs) hx)
 show Od.ord (cls rs) (openAll rs (nfd rs xs))=nfd rs xs
 rw [h1]
 exact Od.ord_ord (fun c=>cls_range (check_iff.1 hk).1 c) _
theorem srtA_srt (rs:List Rec):∀ (l:List Int) (a:Int),srtA rs a l=Od.srt (cls rs) a l
 | [],_=>rfl
 | c :: l,a=>by rw [srtA,Od.srt,srtA_srt rs l]
theorem nfd_most {rs:List Rec} (hk:(check rs).2=0) (xs:List Int):(nfd rs xs).length≤32 * xs.length:=by
 unfold nfd
 rw [Od.ord_len (fun c=>cls_range (check_iff.1 hk).1 c)]
 exact openAll_len hk xs
end Cn
def flt12 (k:Int→Int) (c:Int) (l:List Int):List Int:=l.filter fun m=>decide (k m=c)
theorem flt12_step {k:Int→Int} {c:Int} {l:List Int} {i:Nat} (hi:i<l.length):flt12 k c (l.take (i+1))=if k (l.getD i 0)=c then flt12 k c (l.take i)++[l.getD i 0] else flt12 k c (l.take i):=by
 unfold flt12
 rw [List.take_add_one,List.filter_append,List.getElem?_eq_getElem hi]
 have:l.getD i 0=l[i]:=by simp [List.getD,hi]
 rw [this]
 by_cases h:k l[i]=c
 ·rw [if_pos h]; simp [h]
 ·rw [if_neg h]; simp [h]
theorem app_one12 {w:World} {ops:Array Oper} {rest:List Oper} {o:Oper} {a:Act} {Q:Exit→Act→World→Prop} (hgd:o.guard=none) (s x:Operand) (ho:o.op=.call { callee:=.builtin .append,args:=#[s,x],argTypes:=#[23,23] }) (B:Nat) (v:Value) (xs:List Int) (c:Int) (hs:a.eval s=v) (hv:Ok .i32 21 w B v xs) (g:Nat) (hx:a.eval x=.slice (some ⟨g,0,none⟩) 1 1) (hc:w.cell? ⟨g,0,none⟩=some (.int .i32 c)) (hfc:Fit .i32 [c]) (hl:xs.length+1≤1000000000) (hB:B≤w.heap.size) (h:∀ v' w',Ok .i32 21 w' B v' (xs++[c])→w.grownBy w' v.ownBlock→(∀ j,v'.ownBlock=some j→v.ownBlock=some j∨j=w.heap.size)→wpList Tryz.prog ops Q rest (a.put o.dst v') w'):wpList Tryz.prog ops Q (o :: rest) a w:=by
 obtain ⟨i0,hi,hz0,hz1,hz2⟩:=info_parts infoR9
 refine wpList_append_lies w hgd s x 23 ho B 21 i0 (.int .i32 0) 1 4 Tryz.underlying23 hi hz0 hz1 hz2 rfl (by omega) v xs.length (xs.map (Value.int .i32)) hs hv.row ⟨g,0,none⟩ 1 1 [.int .i32 c] hx rfl (fun j u hu=>?_) (fun u hu=>by obtain rfl:=List.mem_singleton.1 hu; rfl) (by omega) (by unfold maxLen; omega) (by omega) hB _ rfl ?_
 ·match j,hu with
  | 0,hu=>simp at hu; subst hu; exact hc
 ·intro g' cap w' h1 h2 h3 _
  refine h _ w' (Ok.of (n:=xs.length+1) (us:=xs.map (Value.int .i32)++[.int .i32 c]) (hv.1.app hfc) (by simp; omega) h1 (by simp) (by simp)) h2 (fun j hj=>?_)
  have:g'=j:=by simpa [Value.ownBlock] using hj
  rcases h3 with h3 | h3
  ·exact Or.inl (by rw [h3,this])
  ·exact Or.inr (by omega)
theorem row_grown12 {w w':World} {B:Nat} {u:Value} {l:List Int} {row:Option Nat} (h:Ok .i32 21 w B u l) (hg:w.grownBy w' row) (hne:∀ j,u.ownBlock=some j→row≠some j):Ok .i32 21 w' B u l:=h.keep (fun j hj=>hg.block j (h.row.lt j hj).2 (fun e=>hne j hj e.symm))
set_option maxRecDepth 8000 in
set_option maxHeartbeats 16000000 in
theorem again_law12 (v:Value) (rs0:List Rec) (xv:Value) (xs:List Int) (w:World) (hg:Glob w) (hv:Rcs w v rs0) (hx:Sk .i32 w xv xs):Calls Tryz.prog 6 #[v,xv] w (Tells w true):=by
 have K1:=Hd (made_any v rs0 w hg hv)
 have hfit:∀ r∈rs0.take 150,RecFit r:=fun r hr=>hv.2.1 r (List.mem_of_mem_take hr)
 have hrl:(rs0.take 150).length≤150:=by rw [List.length_take]; omega
 have HFIT:=Hd hfit
 clear hfit
 obtain ⟨ao,cap,rfl,_,hcap⟩:=hv.shape
 have HX:=Hd hx
 obtain ⟨xo,xcap,hxe,hxc1,hxc2⟩:=hx.shape
 subst hxe
 have HG:=Hd hg
 clear hg hv hx
 generalize rs0.take 150=rs at *
 generalize rs0.length=L at *
 go_enter Tryz.func6,Tryz.ntmps6
 go_wp2_with fail
 refine (Uh K1).mono ?_
 rintro e1 w1 ⟨b1,h1⟩
 have HB1:=Hd b1
 clear K1 b1
 rcases h1 with ⟨hne,rfl⟩ | ⟨h0,p,v2,ps2,rfl,hD,r2,p2⟩
 ·have K2:=Hd (told_any12 w1 ((Uh HG).on (Uh HB1)))
  clear hne
  go_wp2_with fail
  refine (Uh K2).mono ?_
  rintro e2 w2 ⟨rfl,b2⟩
  have HB2:=Hd (bthen (Uh HB1) b2)
  clear K2 b2
  go_wp2
  go_ret
  exact ⟨rfl,Uh HB2⟩
 ·have R2:=rcs_new r2 p2 (by omega) (Uh HFIT)
  obtain ⟨a2,cp2,hv2,_,hcp2⟩:=R2.shape
  subst hv2
  have H0:=Hd h0
  have h6:=check6_of h0
  have H6:=Hd h6
  have hkr:∀ c,0≤Cn.cls rs c∧Cn.cls rs c≤254:=fun c=>Cn.cls_range h6 c
  have HR:=Hd hkr
  have hXl:(xs.take 150).length≤150:=List.length_take_le _ _
  have K3:=Hd (few_new12 _ xs 150 w1 ((Uh HX).below (Uh HB1)) (by omega))
  have HD1:=Hd hD
  have HG1:=Hd ((Uh HG).on (Uh HB1))
  -- what is plain
  have HNN:=Hd (Cn.nfd_again h0 (xs.take 150))
  have HSS:=Hd (Od.ord_ord hkr (xs.take 150))
  have HSN:Hid (Cn.srtA rs 0 (Cn.nfd rs (xs.take 150))=true):=by show _=_; rw [Cn.srtA_srt]; exact Od.srt_ord hkr _
  have HSO:Hid (Cn.srtA rs 0 (Od.ord (Cn.cls rs) (xs.take 150))=true):=by show _=_; rw [Cn.srtA_srt]; exact Od.srt_ord hkr _
  have HSX:Hid (Cn.srtA rs 0 (xs.take 150)=decide (Od.ord (Cn.cls rs) (xs.take 150)=xs.take 150)):=by
   show _=_
   rw [Cn.srtA_srt]
   cases hq:Od.srt (Cn.cls rs) 0 (xs.take 150) with
   | true=>exact (decide_eq_true ((Od.srt_iff hkr _).1 hq)).symm
   | false=>exact (decide_eq_false (fun e=>by rw [(Od.srt_iff hkr _).2 e] at hq; cases hq)).symm
  have HLF:Hid (∀ x,x∈Cn.nfd rs (xs.take 150)→Cn.opn rs x=[]):=fun x hx=>Cn.nfd_leaves h0 hx
  have HOL:=Hd (Od.ord_len hkr (xs.take 150))
  have HAT:Hid (∀ i,i<(xs.take 150).length→Cn.cls rs ((xs.take 150).getD i 0)=0→(Od.ord (Cn.cls rs) (xs.take 150)).getD i 0=(xs.take 150).getD i 0):=fun i hi hc=>Od.ord_at hkr hi hc
  have HFT:Hid (∀ c,flt12 (Cn.cls rs) c (Od.ord (Cn.cls rs) (xs.take 150))=flt12 (Cn.cls rs) c (xs.take 150)):=fun c=>Od.ord_filt hkr _ c
  have HNL:=Hd (Cn.nfd_most h0 (xs.take 150))
  clear hD r2 p2 R2 h0 h6 HX HG HFIT hkr
  generalize xs.take 150=X at *
  go_wp2_with fail
  refine (Uh K3).mono ?_
  rintro e2 w2 ⟨vi,rfl,ok2,b2⟩
  have HD2:=Hd ((Uh HD1).below b2)
  have HG2:=Hd ((Uh HG1).on b2)
  have HX2:=Hd ok2.sk
  have HW2:=Hd (bthen (Uh HB1) b2)
  obtain ⟨ia,ic,hvi,hic1,hic2⟩:=ok2.sk.shape
  subst hvi
  have K4:=Hd (nfd_any12 _ X w2 (Uh HG2) (Uh HD2) (Uh H0) (Uh HX2))
  rw [if_neg (by omega)] at K4
  have hNl:=Uh HNL
  have HOL2:=HOL
  clear K3 ok2 b2 HD1 HG1 HB1 HNL
  generalize hNe:Cn.nfd rs X=Nn at *
  have HNE:=Hd hNe
  clear hNe
  generalize hSe0:Od.ord (Cn.cls rs) X=Sx at *
  have HSE0:=Hd hSe0
  clear hSe0
  have hSl:Sx.length≤150:=by rw [Uh HOL]; exact hXl
  -- n
  go_wp2_with fail
  refine (Uh K4).mono ?_
  rintro e3 w3 ⟨vn,rfl,ok3,b3⟩
  have HD3:=Hd ((Uh HD2).below b3)
  have HG3:=Hd ((Uh HG2).on b3)
  have HX3:=Hd ((Uh HX2).below b3)
  have HN3:=Hd ok3.sk
  have HW3:=Hd (bthen (Uh HW2) b3)
  obtain ⟨na,nc,hvn,hnc1,hnc2⟩:=ok3.sk.shape
  subst hvn
  have K5:=Hd (nfd_any12 _ Nn w3 (Uh HG3) (Uh HD3) (Uh H0) (Uh HN3))
  rw [if_neg (by omega),Uh HNN] at K5
  clear K4 ok3 b3 HD2 HG2 HX2 HW2 HNN
  -- m
  go_wp2_with fail
  refine (Uh K5).mono ?_
  rintro e4 w4 ⟨vm,rfl,ok4,b4⟩
  have HD4:=Hd ((Uh HD3).below b4)
  have HG4:=Hd ((Uh HG3).on b4)
  have HX4:=Hd ((Uh HX3).below b4)
  have HN4:=Hd ((Uh HN3).below b4)
  have HM4:=Hd ok4.sk
  have HW4:=Hd (bthen (Uh HW3) b4)
  obtain ⟨ma,mc,hvm,_,_⟩:=ok4.sk.shape
  subst hvm
  have K6:=Hd (sort_any12 _ X w4 (Uh HD4) (Uh H0) (Uh HX4))
  rw [if_neg (by omega),Uh HSE0] at K6
  clear HSE0
  clear K5 ok4 b4 HD3 HG3 HX3 HN3 HW3
  -- s
  go_wp2_with fail
  refine (Uh K6).mono ?_
  rintro e5 w5 ⟨vs,rfl,ok5,b5⟩
  have HD5:=Hd ((Uh HD4).below b5)
  have HG5:=Hd ((Uh HG4).on b5)
  have HX5:=Hd ((Uh HX4).below b5)
  have HN5:=Hd ((Uh HN4).below b5)
  have HM5:=Hd ((Uh HM4).below b5)
  have HS5:=Hd ok5.sk
  have HW5:=Hd (bthen (Uh HW4) b5)
  obtain ⟨sa,sc,hvs,hsc1,hsc2⟩:=ok5.sk.shape
  subst hvs
  have K7:=Hd (sort_any12 _ Sx w5 (Uh HD5) (Uh H0) (Uh HS5))
  rw [if_neg (by omega),Uh HSS] at K7
  clear K6 ok5 b5 HD4 HG4 HX4 HN4 HM4 HW4 HSS
  -- r
  go_wp2_with fail
  refine (Uh K7).mono ?_
  rintro e6 w6 ⟨vr,rfl,ok6,b6⟩
  have HD6:=Hd ((Uh HD5).below b6)
  have HG6:=Hd ((Uh HG5).on b6)
  have HX6:=Hd ((Uh HX5).below b6)
  have HN6:=Hd ((Uh HN5).below b6)
  have HM6:=Hd ((Uh HM5).below b6)
  have HS6:=Hd ((Uh HS5).below b6)
  have HR6:=Hd ok6.sk
  have HW6:=Hd (bthen (Uh HW5) b6)
  obtain ⟨ra,rc,hvr,_,_⟩:=ok6.sk.shape
  subst hvr
  have KS1:Hid (∀ W,Below w6.heap.size w6 W→Calls Tryz.prog 12 #[.slice na Nn.length nc,.slice ma Nn.length mc] W (Draws W true)):=fun W hW=>same3_eq _ _ Nn W ((Uh HN6).below hW) ((Uh HM6).below hW) (by omega)
  have KS2:Hid (∀ W,Below w6.heap.size w6 W→Calls Tryz.prog 12 #[.slice ra Sx.length rc,.slice sa Sx.length sc] W (Draws W true)):=fun W hW=>same3_eq _ _ Sx W ((Uh HR6).below hW) ((Uh HS6).below hW) (by omega)
  have KS3:Hid (∀ W,Below w6.heap.size w6 W→Calls Tryz.prog 12 #[.slice sa Sx.length sc,.slice ia X.length ic] W (Draws W (decide (Sx=X)))):=fun W hW=>same_q12 _ _ Sx X W ((Uh HS6).below hW) ((Uh HX6).below hW)
  have KO1:Hid (∀ W,Below w6.heap.size w6 W→Calls Tryz.prog 25 #[.pointer (some ⟨p,0,none⟩),.slice na Nn.length nc] W (BoolB W true)):=fun W hW=>by
   have:=sorted_any12 _ Nn W ((Uh HD6).below hW) (Uh H6) ((Uh HN6).below hW)
   rw [Uh HSN] at this; exact this
  have KO2:Hid (∀ W,Below w6.heap.size w6 W→Calls Tryz.prog 25 #[.pointer (some ⟨p,0,none⟩),.slice sa Sx.length sc] W (BoolB W true)):=fun W hW=>by
   have:=sorted_any12 _ Sx W ((Uh HD6).below hW) (Uh H6) ((Uh HS6).below hW)
   rw [Uh HSO] at this; exact this
  have KO3:Hid (∀ W,Below w6.heap.size w6 W→Calls Tryz.prog 25 #[.pointer (some ⟨p,0,none⟩),.slice ia X.length ic] W (BoolB W (decide (Sx=X)))):=fun W hW=>by
   have:=sorted_any12 _ X W ((Uh HD6).below hW) (Uh H6) ((Uh HX6).below hW)
   rw [Uh HSX] at this; exact this
  have KP:Hid (∀ c W,c∈Nn→Below w6.heap.size w6 W→Calls Tryz.prog 13 #[.pointer (some ⟨p,0,none⟩),.int .i32 c] W (RunesNew W [])):=fun c W hc hW=>by
   have hr:=(Uh HN6).1 c hc
   have:=open_any9 c W ((Uh HG6).on hW) ((Uh HD6).below hW) (Uh H0) ⟨hr.1,hr.2⟩
   rw [(Uh HLF) c hc] at this; exact this
  have KC:Hid (∀ c W,Rune c→Below w6.heap.size w6 W→Calls Tryz.prog 15 #[.pointer (some ⟨p,0,none⟩),.int .i32 c] W (IntDraws W (Cn.cls rs c))):=class_all12 (Uh HD6) (Uh H6)
  have hlq:((Sx.length:Int) != (X.length:Int))=false:=by rw [Uh HOL]; simp
  have hSX:Sx.length≤X.length∧X.length≤Sx.length:=by rw [Uh HOL]; omega
  obtain ⟨hSX1,hSX2⟩:=hSX
  clear K7 ok6 b6 HD5 HG5 HX5 HN5 HM5 HS5 HW5 HSN HSO HSX HLF HOL HOL2 HD6 HG6 HM6 HR6 H0 H6 HNE
  generalize Cn.cls rs=kf at *
  generalize decide (Sx=X)=bb at *
  have hbb:(bb != bb)=false:=by simp
  have B6:=Hd (Below.refl w6.heap.size w6)
  go_wp2_with fail
  refine ((Uh KS1) w6 (Uh B6)).mono ?_
  rintro e7 w7 ⟨rfl,m7,rfl⟩
  have B7:=Hd (bthen (Uh B6) (drewB ⟨m7,rfl⟩))
  clear KS1 B6
  generalize w6.drewN m7=w7 at *
  go_wp2_with fail
  refine ((Uh KO1) w7 (Uh B7)).mono ?_
  rintro e8 w8 ⟨rfl,b8⟩
  have B8:=Hd (bthen (Uh B7) b8)
  clear KO1 B7 b8
  go_wp2_with fail
  refine ((Uh KO2) w8 (Uh B8)).mono ?_
  rintro e9 w9 ⟨rfl,b9⟩
  have B9:=Hd (bthen (Uh B8) b9)
  clear KO2 B8 b9
  go_wp2_with fail
  refine ((Uh KS2) w9 (Uh B9)).mono ?_
  rintro e10 w10 ⟨rfl,m10,rfl⟩
  have B10:=Hd (bthen (Uh B9) (drewB ⟨m10,rfl⟩))
  clear KS2 B9
  generalize w9.drewN m10=w10 at *
  go_wp2_with fail
  refine ((Uh KO3) w10 (Uh B10)).mono ?_
  rintro e11 w11 ⟨rfl,b11⟩
  have B11:=Hd (bthen (Uh B10) b11)
  clear KO3 B10 b11
  go_wp2_with fail
  refine ((Uh KS3) w11 (Uh B11)).mono ?_
  rintro e12 w12 ⟨rfl,m12,rfl⟩
  have B12:=Hd (bthen (Uh B11) (drewB ⟨m12,rfl⟩))
  clear KS3 B11
  generalize w11.drewN m12=w12 at *
  go_wp2
  clear hlq hbb
  go_loopw [17] (fun ii wr=>∃ k:Nat,ii=.int .i64 k∧k≤Nn.length∧Below w6.heap.size w6 wr) (fun ii _=>Nn.length - (intOf ii).toNat)
  case atStart=>exact ⟨0,rfl,by omega,Uh B12⟩
  case round =>
   clear B12
   obtain ⟨k,rfl,hk,hb⟩:=hrel
   by_cases hlt:k<Nn.length
   ·obtain ⟨bx,ox,cqx,hex,_,_,hclx⟩:=(Uh HN6).place (by omega)
    simp only [Value.slice.injEq] at hex
    obtain ⟨rfl,h9,rfl⟩:=hex
    clear h9
    have hcell:wr.cell? ⟨bx,ox+k,none⟩=some (.int .i32 (Nn.getD k 0)):=by
     have h3:=hclx k hlt
     rw [hb.cell (lt_of_cell? h3)]; exact h3
    have K20:=Hd ((Uh KP) (Nn.getD k 0) wr (by simp [List.getD,hlt]) hb)
    have HB:=Hd hb
    clear hclx hb
    generalize Nn.getD k 0=c0 at *
    go_wp2_with fail
    refine (Uh K20).mono ?_
    rintro e20 w20 ⟨v20,rfl,ok20,b20⟩
    have HB20:=Hd (bthen (Uh HB) b20)
    obtain ⟨o20,c20,hv20,_,_⟩:=ok20.sk.shape
    subst hv20
    clear K20 ok20 b20 HB hcell
    go_wp2
    go_roundw
    case rel=>exact ⟨k+1,by go_num,by omega,Uh HB20⟩
    case measure=>simp [intOf]; omega
   ·have HBO:=Hd hb
    obtain ⟨wo,hwo⟩:∃ wo,wo=wr:=⟨_,rfl⟩
    subst hwo
    clear hb KP HN6
    go_wp2
    clear hlt hk
    go_loopw [18,19,20,21] (fun cc _ _ _ wr=>∃ c:Nat,cc=.int .i64 c∧c≤255∧Below w6.heap.size w6 wr) (fun cc _ _ _ _=>255 - (intOf cc).toNat)
    case atStart=>exact ⟨0,rfl,by omega,Uh HBO⟩
    case round =>
     clear HBO
     obtain ⟨c,rfl,hc,hb⟩:=hrel
     obtain ⟨wp,hwp⟩:∃ wp,wp=wr:=⟨_,rfl⟩
     subst hwp
     have HBP:=Hd hb
     clear hb
     by_cases hclt:c<255
     ·go_wp2
      rw [show decide ((c:Int)<255)=true from decide_eq_true (by omega)]
      go_loopw [19,20,21] (fun aa ab ii wr=>∃ i:Nat,ii=.int .i64 i∧i≤X.length∧Ok .i32 21 wr wp.heap.size aa (flt12 kf c (X.take i))∧Ok .i32 21 wr wp.heap.size ab (flt12 kf c (Sx.take i))∧(∀ j,aa.ownBlock=some j→ab.ownBlock≠some j)∧Below wp.heap.size wp wr) (fun _ _ ii _=>X.length - (intOf ii).toNat)
      case atStart=>exact ⟨0,rfl,by omega,Ok.nil _ _ _ _,Ok.nil _ _ _ _,fun j hj=>(by cases hj),Below.refl _ _⟩
      case round =>
       obtain ⟨i,rfl,hi,oa,ob,hap,hbw⟩:=hrel
       by_cases hlt:i<X.length
       ·obtain ⟨bx,ox,cqx,hex,_,_,hclx⟩:=(Uh HX6).place (by omega)
        simp only [Value.slice.injEq] at hex
        obtain ⟨rfl,h9,rfl⟩:=hex
        clear h9
        obtain ⟨bs,os,cqs,hes,_,_,hcls⟩:=(Uh HS6).place (by omega)
        simp only [Value.slice.injEq] at hes
        obtain ⟨rfl,h9,rfl⟩:=hes
        clear h9
        have HCX:Hid (∀ W,Below wp.heap.size wp W→W.cell? ⟨bx,ox+i,none⟩=some (.int .i32 (X.getD i 0))∧W.cell? ⟨bs,os+i,none⟩=some (.int .i32 (Sx.getD i 0))):=fun W hW=>by
         have hq:=bthen (Uh HBP) hW
         have h3:=hclx i hlt
         have h4:=hcls i (by omega)
         exact ⟨by rw [hq.cell (lt_of_cell? h3)]; exact h3,by rw [hq.cell (lt_of_cell? h4)]; exact h4⟩
        have hrx:Fit .i32 [X.getD i 0]:=fun z hz=>by obtain rfl:=List.mem_singleton.1 hz; exact (Uh HX6).1 _ (by simp [List.getD,hlt])
        have hrs:Fit .i32 [Sx.getD i 0]:=fun z hz=>by obtain rfl:=List.mem_singleton.1 hz; exact (Uh HS6).1 _ (by simp [List.getD,show i<Sx.length by omega])
        have hAT:=(Uh HAT) i hlt
        have hsa:=flt12_step (k:=kf) (c:=(c:Int)) hlt
        have hsb:=flt12_step (k:=kf) (c:=(c:Int)) (show i<Sx.length by omega)
        have hla:(flt12 kf c (X.take i)).length≤150:=Nat.le_trans (List.length_filter_le _ _) (by rw [List.length_take]; omega)
        have hlb:(flt12 kf c (Sx.take i)).length≤150:=Nat.le_trans (List.length_filter_le _ _) (by rw [List.length_take]; omega)
        have KC1:Hid (∀ W,Below wp.heap.size wp W→Calls Tryz.prog 15 #[.pointer (some ⟨p,0,none⟩),.int .i32 (X.getD i 0)] W (IntDraws W (kf (X.getD i 0)))):=fun W hW=>(Uh KC) _ W ⟨(hrx _ (by simp)).1,(hrx _ (by simp)).2⟩ (bthen (Uh HBP) hW)
        have KC2:Hid (∀ W,Below wp.heap.size wp W→Calls Tryz.prog 15 #[.pointer (some ⟨p,0,none⟩),.int .i32 (Sx.getD i 0)] W (IntDraws W (kf (Sx.getD i 0)))):=fun W hW=>(Uh KC) _ W ⟨(hrs _ (by simp)).1,(hrs _ (by simp)).2⟩ (bthen (Uh HBP) hW)
        obtain ⟨q0,q1⟩:=(Uh HR) (X.getD i 0)
        obtain ⟨r0,r1⟩:=(Uh HR) (Sx.getD i 0)
        have HSA:=Hd hsa
        have HSB:=Hd hsb
        have HATI:=Hd hAT
        have HRX:=Hd hrx
        have HRS:=Hd hrs
        have HOA:=Hd oa
        have HOB:=Hd ob
        have HAP:=Hd hap
        have HBW:=Hd hbw
        obtain ⟨hcx,hcs⟩:=(Uh HCX) wr hbw
        clear hclx hcls hsa hsb hAT hrx hrs oa ob hap hbw
        generalize flt12 kf c (X.take i)=la at *
        generalize flt12 kf c (Sx.take i)=lb at *
        generalize hxe:X.getD i 0=x at *
        generalize hse:Sx.getD i 0=sx at *
        have HXE:=Hd hxe
        have HSE:=Hd hse
        clear hxe hse
        generalize kf x=q at *
        generalize kf sx=r at *
        have K40:=Hd ((Uh KC1) wr (Uh HBW))
        go_wp2_with fail
        refine (Uh K40).mono ?_
        rintro e41 w41 ⟨rfl,m41,rfl⟩
        have b41:Below wr.heap.size wr (wr.drewN m41):=drewB ⟨m41,rfl⟩
        have HB41:=Hd (bthen (Uh HBW) b41)
        have HOA1:=Hd ((Uh HOA).below b41)
        have HOB1:=Hd ((Uh HOB).below b41)
        clear hcx hcs
        obtain ⟨hcx,hcs⟩:=(Uh HCX) (wr.drewN m41) (Uh HB41)
        clear K40 b41 HOA HOB HBW KC1
        generalize wr.drewN m41=w41 at *
        by_cases hq:q=(c:Int)
        ·have hqb:(q==(c:Int))=true:=by simpa using hq
         rw [if_pos hq] at HSA
         have HQ:=Hd hq
         clear hq
         obtain ⟨W42,hW42⟩:∃ W42,w41.alloc (.cells #[.int .i32 x] 21)=W42:=⟨_,rfl⟩
         obtain ⟨g42,hg42⟩:∃ g42,w41.heap.size=g42:=⟨_,rfl⟩
         have ba42:Below w41.heap.size w41 W42:=by rw [← hW42]; exact (Below.refl _ _).alloc (Nat.le_refl _) _
         have hcg42:W42.cell? ⟨g42,0,none⟩=some (.int .i32 x):=by rw [← hW42,← hg42]; simp
         have o142:=Hd ((Uh HOA1).below ba42)
         have o242:=Hd ((Uh HOB1).below ba42)
         have bb42:=Hd (bthen (Uh HB41) ba42)
         have hz42:=(Uh bb42).size
         clear ba42 HOA1 HOB1 HB41
         go_wp2_with (at_builtin; refine app_one12 rfl (.tmp 131) (.tmp 136) rfl wp.heap.size _ la x rfl (Uh o142) g42 rfl hcg42 (Uh HRX) (by omega) hz42 ?_)
         intro v42 w44 oa42 gr42 hl42
         have ob42:=Hd (row_grown12 (Uh o242) gr42 (fun j hj e=>(Uh HAP) j e hj))
         have ap42:Hid (∀ j,v42.ownBlock=some j→u20.ownBlock≠some j):=fun j hj e=>by
          rcases hl42 j hj with h | h
          ·exact (Uh HAP) j h e
          ·have:=((Uh o242).row.lt j e).2; omega
         have B42:=Hd ((Uh bb42).grown gr42 hz42 (fun j hj=>((Uh o142).row.lt j hj).1))
         have OA42:=Hd oa42
         clear o142 o242 bb42 hz42 hcg42 hW42 hg42 oa42 gr42 hl42 HAP
         clear hcx hcs
         obtain ⟨hcx,hcs⟩:=(Uh HCX) w44 (Uh B42)
         by_cases hc0:(c:Int)=0
         ·have hcb:((c:Int)==0)=true:=by simpa using hc0
          have hsx:sx=x:=(Uh HATI) (by rw [Uh HQ]; exact hc0)
          have hne:(sx != x)=false:=by simp [hsx]
          clear hc0 hsx
          go_wp2
          go_quiet (fail)
          have bq:Below w44.heap.size w44 (w44.drewN nq):=drewB ⟨nq,rfl⟩
          have BQ:=Hd (bthen (Uh B42) bq)
          have QA:=Hd ((Uh OA42).below bq)
          have QB:=Hd ((Uh ob42).below bq)
          clear hcx hcs
          obtain ⟨hcx,hcs⟩:=(Uh HCX) _ (Uh BQ)
          clear bq OA42 ob42 B42
          generalize w44.drewN nq=w46 at *
          have K50:=Hd ((Uh KC2) w46 (Uh BQ))
          go_wp2_with fail
          refine (Uh K50).mono ?_
          rintro e50 w50 ⟨rfl,m50,rfl⟩
          have bd50:Below w46.heap.size w46 (w46.drewN m50):=drewB ⟨m50,rfl⟩
          have BD50:=Hd (bthen (Uh BQ) bd50)
          have PA50:=Hd ((Uh QA).below bd50)
          have PB50:=Hd ((Uh QB).below bd50)
          obtain ⟨ux50,us50⟩:=(Uh HCX) (w46.drewN m50) (Uh BD50)
          clear K50 bd50 QA QB BQ hcx hcs
          generalize w46.drewN m50=w50 at *
          by_cases hr:r=(c:Int)
          ·have hrb:(r==(c:Int))=true:=by simpa using hr
           rw [if_pos hr] at HSB
           clear hr
           obtain ⟨W51,hW51⟩:∃ W51,w50.alloc (.cells #[.int .i32 sx] 21)=W51:=⟨_,rfl⟩
           obtain ⟨g51,hg51⟩:∃ g51,w50.heap.size=g51:=⟨_,rfl⟩
           have ba51:Below w50.heap.size w50 W51:=by rw [← hW51]; exact (Below.refl _ _).alloc (Nat.le_refl _) _
           have hcg51:W51.cell? ⟨g51,0,none⟩=some (.int .i32 sx):=by rw [← hW51,← hg51]; simp
           have o151:=Hd ((Uh PB50).below ba51)
           have o251:=Hd ((Uh PA50).below ba51)
           have bb51:=Hd (bthen (Uh BD50) ba51)
           have hz51:=(Uh bb51).size
           clear ba51 PB50 PA50 BD50
           go_wp2_with (at_builtin; refine app_one12 rfl (.tmp 159) (.tmp 164) rfl wp.heap.size _ lb sx rfl (Uh o151) g51 rfl hcg51 (Uh HRS) (by omega) hz51 ?_)
           intro v51 w53 oa51 gr51 hl51
           have ob51:=Hd (row_grown12 (Uh o251) gr51 (fun j hj e=>(Uh ap42) j hj e))
           have ap51:Hid (∀ j,v42.ownBlock=some j→v51.ownBlock≠some j):=fun j hj e=>by
            rcases hl51 j e with h | h
            ·exact (Uh ap42) j hj h
            ·have:=((Uh o251).row.lt j hj).2; omega
           have B51:=Hd ((Uh bb51).grown gr51 hz51 (fun j hj=>((Uh o151).row.lt j hj).1))
           have OA51:=Hd oa51
           clear o151 o251 bb51 hz51 hcg51 hW51 hg51 oa51 gr51 hl51 ap42
           clear ux50 us50 HCX KC2
           go_wp2
           go_roundw
           case rel=>exact ⟨i+1,by go_num,by omega,by rw [Uh HSA]; exact Uh ob51,by rw [Uh HSB]; exact Uh OA51,Uh ap51,Uh B51⟩
           case measure=>simp [intOf]; omega
          ·have hrb:(r==(c:Int))=false:=by simpa using hr
           rw [if_neg hr] at HSB
           clear ux50 us50 HCX KC2
           go_wp2
           go_roundw
           case rel=>exact ⟨i+1,by go_num,by omega,by rw [Uh HSA]; exact Uh PA50,by rw [Uh HSB]; exact Uh PB50,Uh ap42,Uh BD50⟩
           case measure=>simp [intOf]; omega
         ·have hcb:((c:Int)==0)=false:=by simpa using hc0
          go_wp2
          go_quiet (fail)
          have bq:Below w44.heap.size w44 (w44.drewN nq):=drewB ⟨nq,rfl⟩
          have BQ:=Hd (bthen (Uh B42) bq)
          have QA:=Hd ((Uh OA42).below bq)
          have QB:=Hd ((Uh ob42).below bq)
          clear hcx hcs
          obtain ⟨hcx,hcs⟩:=(Uh HCX) _ (Uh BQ)
          clear bq OA42 ob42 B42
          generalize w44.drewN nq=w46 at *
          have K50:=Hd ((Uh KC2) w46 (Uh BQ))
          go_wp2_with fail
          refine (Uh K50).mono ?_
          rintro e50 w50 ⟨rfl,m50,rfl⟩
          have bd50:Below w46.heap.size w46 (w46.drewN m50):=drewB ⟨m50,rfl⟩
          have BD50:=Hd (bthen (Uh BQ) bd50)
          have PA50:=Hd ((Uh QA).below bd50)
          have PB50:=Hd ((Uh QB).below bd50)
          obtain ⟨ux50,us50⟩:=(Uh HCX) (w46.drewN m50) (Uh BD50)
          clear K50 bd50 QA QB BQ hcx hcs
          generalize w46.drewN m50=w50 at *
          by_cases hr:r=(c:Int)
          ·have hrb:(r==(c:Int))=true:=by simpa using hr
           rw [if_pos hr] at HSB
           clear hr
           obtain ⟨W51,hW51⟩:∃ W51,w50.alloc (.cells #[.int .i32 sx] 21)=W51:=⟨_,rfl⟩
           obtain ⟨g51,hg51⟩:∃ g51,w50.heap.size=g51:=⟨_,rfl⟩
           have ba51:Below w50.heap.size w50 W51:=by rw [← hW51]; exact (Below.refl _ _).alloc (Nat.le_refl _) _
           have hcg51:W51.cell? ⟨g51,0,none⟩=some (.int .i32 sx):=by rw [← hW51,← hg51]; simp
           have o151:=Hd ((Uh PB50).below ba51)
           have o251:=Hd ((Uh PA50).below ba51)
           have bb51:=Hd (bthen (Uh BD50) ba51)
           have hz51:=(Uh bb51).size
           clear ba51 PB50 PA50 BD50
           go_wp2_with (at_builtin; refine app_one12 rfl (.tmp 159) (.tmp 164) rfl wp.heap.size _ lb sx rfl (Uh o151) g51 rfl hcg51 (Uh HRS) (by omega) hz51 ?_)
           intro v51 w53 oa51 gr51 hl51
           have ob51:=Hd (row_grown12 (Uh o251) gr51 (fun j hj e=>(Uh ap42) j hj e))
           have ap51:Hid (∀ j,v42.ownBlock=some j→v51.ownBlock≠some j):=fun j hj e=>by
            rcases hl51 j e with h | h
            ·exact (Uh ap42) j hj h
            ·have:=((Uh o251).row.lt j hj).2; omega
           have B51:=Hd ((Uh bb51).grown gr51 hz51 (fun j hj=>((Uh o151).row.lt j hj).1))
           have OA51:=Hd oa51
           clear o151 o251 bb51 hz51 hcg51 hW51 hg51 oa51 gr51 hl51 ap42
           clear ux50 us50 HCX KC2
           go_wp2
           go_roundw
           case rel=>exact ⟨i+1,by go_num,by omega,by rw [Uh HSA]; exact Uh ob51,by rw [Uh HSB]; exact Uh OA51,Uh ap51,Uh B51⟩
           case measure=>simp [intOf]; omega
          ·have hrb:(r==(c:Int))=false:=by simpa using hr
           rw [if_neg hr] at HSB
           clear ux50 us50 HCX KC2
           go_wp2
           go_roundw
           case rel=>exact ⟨i+1,by go_num,by omega,by rw [Uh HSA]; exact Uh PA50,by rw [Uh HSB]; exact Uh PB50,Uh ap42,Uh BD50⟩
           case measure=>simp [intOf]; omega
        ·have hqb:(q==(c:Int))=false:=by simpa using hq
         rw [if_neg hq] at HSA
         clear hq
         have K50:=Hd ((Uh KC2) w41 (Uh HB41))
         go_wp2_with fail
         refine (Uh K50).mono ?_
         rintro e50 w50 ⟨rfl,m50,rfl⟩
         have bd50:Below w41.heap.size w41 (w41.drewN m50):=drewB ⟨m50,rfl⟩
         have BD50:=Hd (bthen (Uh HB41) bd50)
         have PA50:=Hd ((Uh HOA1).below bd50)
         have PB50:=Hd ((Uh HOB1).below bd50)
         obtain ⟨ux50,us50⟩:=(Uh HCX) (w41.drewN m50) (Uh BD50)
         clear K50 bd50 HOA1 HOB1 HB41 hcx hcs
         generalize w41.drewN m50=w50 at *
         by_cases hr:r=(c:Int)
         ·have hrb:(r==(c:Int))=true:=by simpa using hr
          rw [if_pos hr] at HSB
          clear hr
          obtain ⟨W51,hW51⟩:∃ W51,w50.alloc (.cells #[.int .i32 sx] 21)=W51:=⟨_,rfl⟩
          obtain ⟨g51,hg51⟩:∃ g51,w50.heap.size=g51:=⟨_,rfl⟩
          have ba51:Below w50.heap.size w50 W51:=by rw [← hW51]; exact (Below.refl _ _).alloc (Nat.le_refl _) _
          have hcg51:W51.cell? ⟨g51,0,none⟩=some (.int .i32 sx):=by rw [← hW51,← hg51]; simp
          have o151:=Hd ((Uh PB50).below ba51)
          have o251:=Hd ((Uh PA50).below ba51)
          have bb51:=Hd (bthen (Uh BD50) ba51)
          have hz51:=(Uh bb51).size
          clear ba51 PB50 PA50 BD50
          go_wp2_with (at_builtin; refine app_one12 rfl (.tmp 159) (.tmp 164) rfl wp.heap.size _ lb sx rfl (Uh o151) g51 rfl hcg51 (Uh HRS) (by omega) hz51 ?_)
          intro v51 w53 oa51 gr51 hl51
          have ob51:=Hd (row_grown12 (Uh o251) gr51 (fun j hj e=>(Uh HAP) j hj e))
          have ap51:Hid (∀ j,u19.ownBlock=some j→v51.ownBlock≠some j):=fun j hj e=>by
           rcases hl51 j e with h | h
           ·exact (Uh HAP) j hj h
           ·have:=((Uh o251).row.lt j hj).2; omega
          have B51:=Hd ((Uh bb51).grown gr51 hz51 (fun j hj=>((Uh o151).row.lt j hj).1))
          have OA51:=Hd oa51
          clear o151 o251 bb51 hz51 hcg51 hW51 hg51 oa51 gr51 hl51 HAP
          clear ux50 us50 HCX KC2
          go_wp2
          go_roundw
          case rel=>exact ⟨i+1,by go_num,by omega,by rw [Uh HSA]; exact Uh ob51,by rw [Uh HSB]; exact Uh OA51,Uh ap51,Uh B51⟩
          case measure=>simp [intOf]; omega
         ·have hrb:(r==(c:Int))=false:=by simpa using hr
          rw [if_neg hr] at HSB
          clear ux50 us50 HCX KC2
          go_wp2
          go_roundw
          case rel=>exact ⟨i+1,by go_num,by omega,by rw [Uh HSA]; exact Uh PA50,by rw [Uh HSB]; exact Uh PB50,Uh HAP,Uh BD50⟩
          case measure=>simp [intOf]; omega
       ·have ha:X.take i=X:=List.take_of_length_le (by omega)
        have hb2:Sx.take i=Sx:=List.take_of_length_le (by omega)
        rw [ha] at oa
        rw [hb2,(Uh HFT) c] at ob
        have K30:=Hd (same3_eq _ _ _ wr oa.sk ob.sk (by have:(flt12 kf c X).length≤X.length:=List.length_filter_le _ _; omega))
        have HB30:=Hd (bthen (Uh HBP) hbw)
        obtain ⟨za,zc,hza,_,_⟩:=oa.sk.shape
        subst hza
        obtain ⟨zb,zd,hzb,_,_⟩:=ob.sk.shape
        subst hzb
        clear oa ob hap hbw ha hb2 KC HAT HFT
        generalize flt12 kf c X=fx at *
        go_wp2_with fail
        refine (Uh K30).mono ?_
        rintro e31 w31 ⟨rfl,m31,rfl⟩
        have HB31:=Hd (bthen (Uh HB30) (drewB ⟨m31,rfl⟩))
        clear K30 HB30
        generalize wr.drewN m31=w31 at *
        go_wp2
        go_roundw
        case rel=>exact ⟨c+1,by go_num,by omega,Uh HB31⟩
        case measure=>simp [intOf]; omega
     ·have HBF:=Hd (bthen (Uh HW6) (Uh HBP))
      clear HBP KC HAT HFT
      go_wp2
      go_ret
      exact ⟨rfl,Uh HBF⟩
end Go.Proofs.YteccdnacpmbfcaaGreatDoor
