/- Ls18 Lq18 -/
import Derived.Test.YtkglkajjofidoaaGreatDoorU4
import Derived.Deep.RegionHeld3
set_option maxHeartbeats 2000000
set_option maxRecDepth 8000
namespace Go.Proofs.YtkglkajjofidoaaGreatDoor
open Go.RowKit
section
variable {w:World} {L p:Nat} {xv:Value} {fl:Int} {rtl dec:Bool} {X:List Int} {o:Lb.Of}
theorem y9T (h:LbH w L p xv fl rtl dec) (hx:Sk .i32 w xv X) (h0:0<X.length) (hP:PLbC p xv X o w):Calls Tryz.prog 46 #[.pointer (some ⟨L,0,none⟩)] w (IntB w (x2d (o.mrk (X.getD 0 0)) 64)):=by
 have ah:=hx.len;have H0:=Hd fun W (hW:Below w.heap.size w W)=>(h.below hW).c0;have H1:=Hd fun W (hW:Below w.heap.size w W)=>(h.below hW).c1;have K:=Hd (hP.m (X.getD 0 0) (x0G hx h0));have KW:=Hd (fun b W=>x3f b 64 W);obtain ⟨b,off,cap,rfl,_,_,hc⟩:=hx.place (by omega)
 have HC:Hid (∀ W,Below w.heap.size w W→W.cell? ⟨b,off,none⟩=some (.int .i32 (X.getD 0 0))):=fun W hW=>by
  rw [hW.cell (x0a (hc 0 h0))];exact hc 0 h0
 have an:Below w.heap.size w w:=Below.refl _ _;have hbd:=an.drew;have hL:(0:Int)<X.length:=(by omega);clear h hP hx hc;generalize o.mrk (X.getD 0 0)=z at *;generalize X.getD 0 0=c at *;go_enter Tryz.func46,Tryz.ntmps46;go_wp2_with fail;go_region_held3 (fun w'=>w'.cell? ⟨L,0,none⟩=some (.pointer (some ⟨p,0,none⟩))∧w'.cell? ⟨L,1,none⟩=some (.slice (some ⟨b,off,none⟩) X.length cap)∧w'.cell? ⟨b,off,none⟩=some (.int .i32 c)∧Below w.heap.size w w') (first | exact ⟨(Uh H0) _ (by assumption),(Uh H1) _ (by assumption),(Uh HC) _ (by assumption),by assumption⟩ | (have ae:=x0b hbd (by assumption); exact ⟨(Uh H0) _ ae,(Uh H1) _ ae,(Uh HC) _ ae,ae⟩) | go_keep) (first | (go_at_call 17; refine ((Uh K) _ (by assumption)).mono ?_; rintro e w1 ⟨rfl,b1⟩; have am:=x0b (by assumption:Below w.heap.size w _) b1) | (go_at_call 80; refine ((Uh KW) _ _).mono ?_; rintro e w2 ⟨rfl,rfl⟩));have HB:=Hd am;clear K H0 H1 HC am b1 hbd an KW;go_wp2;go_ret;exact ⟨rfl,Uh HB⟩
theorem y9W (h:LbH w L p xv fl rtl dec) (hx:Sk .i32 w xv X) (hP:PLbC p xv X o w):Calls Tryz.prog 49 #[.pointer (some ⟨L,0,none⟩)] w (IntB w (x2d (Lb.flg fl 4 && o.jn) 512)):=by
 obtain ⟨n,hn,hj⟩:=hP.j;have H0:=Hd fun W (hW:Below w.heap.size w W)=>(h.below hW).c0;have H1:=Hd fun W (hW:Below w.heap.size w W)=>(h.below hW).c1;have H3:=Hd fun W (hW:Below w.heap.size w W)=>(h.below hW).c3;have KH:=Hd fun W (hW:Below w.heap.size w W)=>y0Q (h.below hW) 4;have KC:=Hd hj;have KW:=Hd (fun b W=>x3f b 512 W);obtain ⟨ao,cap,rfl,_,_⟩:=hx.shape;have hbd:Below w.heap.size w w.drew:=(Below.refl _ _).drew;rw [← hn];clear h hP hx hj hn;generalize Lb.flg fl 4=f at *;cases f
 ·go_enter Tryz.func49,Tryz.ntmps49
  go_wp2_with fail;refine wp_region_held_drew (S:=fun w'=>Below w.heap.size w w') (by kernel_rfl) (hbd) (fun hHeld=>?_);refine tk9 0 ⟨some 3,_,_,_,_,_⟩ (.pointer (some ⟨L,0,none⟩)) rfl ?_ hHeld ?_
  ·intro w aa
   go_simp
  try simp only [Act.put,sa9,sb9,sc9]
  refine wpAnyH_ready (rs:=[1]) (by kernel_rfl) (by simp) ?_;refine AllReadyH.cons (o:=⟨some 4,_,_,_,_,_⟩) rfl (fun K hK=>?_) AllReadyH.nil;go_simp;refine ((Uh KH) _ hHeld).mono ?_;rintro e w1 ⟨rfl,rfl⟩;go_wp2_with fail;refine hK.out _ _ ?_ (fun hHeld=>?_)
  ·exact hHeld
  clear hK K
  try simp only [Act.put,sa9,sb9,sc9]
  refine tk9 2 ⟨some 5,_,_,_,_,_⟩ (.bool false) rfl ?_ hHeld ?_
  ·intro w aa
   go_simp
  try simp only [Act.put,sa9,sb9,sc9]
  refine tn9 3 ⟨some 6,_,_,_,_,_⟩ undef rfl hHeld ?_
  try simp only [Act.put,sa9,sb9,sc9]
  refine tn9 4 ⟨some 7,_,_,_,_,_⟩ undef rfl hHeld ?_
  try simp only [Act.put,sa9,sb9,sc9]
  refine tn9 5 ⟨some 8,_,_,_,_,_⟩ undef rfl hHeld ?_
  try simp only [Act.put,sa9,sb9,sc9]
  refine tn9 6 ⟨some 9,_,_,_,_,_⟩ undef rfl hHeld ?_
  try simp only [Act.put,sa9,sb9,sc9]
  refine tn9 7 ⟨some 10,_,_,_,_,_⟩ undef rfl hHeld ?_
  try simp only [Act.put,sa9,sb9,sc9]
  refine tn9 8 ⟨some 11,_,_,_,_,_⟩ undef rfl hHeld ?_
  try simp only [Act.put,sa9,sb9,sc9]
  refine tn9 9 ⟨some 12,_,_,_,_,_⟩ undef rfl hHeld ?_
  try simp only [Act.put,sa9,sb9,sc9]
  refine tn9 10 ⟨some 13,_,_,_,_,_⟩ undef rfl hHeld ?_
  try simp only [Act.put,sa9,sb9,sc9]
  refine tn9 11 ⟨some 14,_,_,_,_,_⟩ undef rfl hHeld ?_
  try simp only [Act.put,sa9,sb9,sc9]
  refine tn9 12 ⟨some 15,_,_,_,_,_⟩ undef rfl hHeld ?_
  try simp only [Act.put,sa9,sb9,sc9]
  refine tk9 13 ⟨some 16,_,_,_,_,_⟩ (.bool false) rfl ?_ hHeld ?_
  ·intro w aa
   go_simp
  try simp only [Act.put,sa9,sb9,sc9]
  refine wpAnyH_ready (rs:=[14]) (by kernel_rfl) (by simp) ?_;refine AllReadyH.cons (o:=⟨some 17,_,_,_,_,_⟩) rfl (fun K hK=>?_) AllReadyH.nil;go_simp;refine ((Uh KW) _ _).mono ?_;rintro e w3 ⟨rfl,rfl⟩;go_wp2_with fail;refine hK.out _ _ ?_ (fun hHeld=>?_)
  ·exact hHeld
  clear hK K
  try simp only [Act.put,sa9,sb9,sc9]
  refine tk9 15 ⟨some 2,_,_,_,_,_⟩ (.int .i64 (x2d (false) 512)) rfl ?_ hHeld ?_
  ·intro w aa
   go_simp
  try simp only [Act.put,sa9,sb9,sc9]
  refine wpAnyH_done (by kernel_rfl) ?_ _;go_wp2;go_ret;exact ⟨rfl,hHeld⟩
 ·go_enter Tryz.func49,Tryz.ntmps49
  go_wp2_with fail;refine wp_region_held_drew (S:=fun w'=>Below w.heap.size w w') (by kernel_rfl) (hbd) (fun hHeld=>?_);refine tk9 0 ⟨some 3,_,_,_,_,_⟩ (.pointer (some ⟨L,0,none⟩)) rfl ?_ hHeld ?_
  ·intro w aa
   go_simp
  try simp only [Act.put,sa9,sb9,sc9]
  refine wpAnyH_ready (rs:=[1]) (by kernel_rfl) (by simp) ?_;refine AllReadyH.cons (o:=⟨some 4,_,_,_,_,_⟩) rfl (fun K hK=>?_) AllReadyH.nil;go_simp;refine ((Uh KH) _ hHeld).mono ?_;rintro e w1 ⟨rfl,rfl⟩;go_wp2_with fail;refine hK.out _ _ ?_ (fun hHeld=>?_)
  ·exact hHeld
  clear hK K
  try simp only [Act.put,sa9,sb9,sc9]
  refine tk9 2 ⟨some 5,_,_,_,_,_⟩ (.bool true) rfl ?_ hHeld ?_
  ·intro w aa
   go_simp
  try simp only [Act.put,sa9,sb9,sc9]
  refine tk9 3 ⟨some 6,_,_,_,_,_⟩ (.pointer (some ⟨L,0,none⟩)) rfl ?_ hHeld ?_
  ·intro w aa
   go_simp
  try simp only [Act.put,sa9,sb9,sc9]
  refine tk9 4 ⟨some 7,_,_,_,_,_⟩ (.pointer (some ⟨L,0,none⟩)) rfl ?_ hHeld ?_
  ·intro w aa
   go_simp
  try simp only [Act.put,sa9,sb9,sc9]
  refine tk9 5 ⟨some 8,_,_,_,_,_⟩ (.pointer (some ⟨L,0,none⟩)) rfl ?_ hHeld ?_
  ·intro w aa
   go_simp
  try simp only [Act.put,sa9,sb9,sc9]
  refine tk9 6 ⟨some 9,_,_,_,_,_⟩ (.pointer (some ⟨p,0,none⟩)) rfl ?_ hHeld ?_
  ·intro w aa
   have z:=(Uh H0) _ aa; go_simp
  try simp only [Act.put,sa9,sb9,sc9]
  refine tk9 7 ⟨some 10,_,_,_,_,_⟩ (.pointer (some ⟨L,0,none⟩)) rfl ?_ hHeld ?_
  ·intro w aa
   go_simp
  try simp only [Act.put,sa9,sb9,sc9]
  refine tk9 8 ⟨some 11,_,_,_,_,_⟩ (.pointer (some ⟨L,0,none⟩)) rfl ?_ hHeld ?_
  ·intro w aa
   go_simp
  try simp only [Act.put,sa9,sb9,sc9]
  refine tk9 9 ⟨some 12,_,_,_,_,_⟩ (.pointer (some ⟨L,1,none⟩)) rfl ?_ hHeld ?_
  ·intro w aa
   go_simp
  try simp only [Act.put,sa9,sb9,sc9]
  refine tk9 10 ⟨some 13,_,_,_,_,_⟩ (.slice ao X.length cap) rfl ?_ hHeld ?_
  ·intro w aa
   have z:=(Uh H1) _ aa; go_simp
  try simp only [Act.put,sa9,sb9,sc9]
  refine wpAnyH_ready (rs:=[11]) (by kernel_rfl) (by simp) ?_;refine AllReadyH.cons (o:=⟨some 14,_,_,_,_,_⟩) rfl (fun K hK=>?_) AllReadyH.nil;go_simp;refine ((Uh KC) _ hHeld).mono ?_;rintro e w2 ⟨rfl,b2⟩;go_wp2_with fail;refine hK.out _ _ ?_ (fun hHeld=>?_)
  ·exact x0b hHeld b2
  clear hK K
  try simp only [Act.put,sa9,sb9,sc9]
  refine tk9 12 ⟨some 15,_,_,_,_,_⟩ (.bool (decide (0≤n))) rfl ?_ hHeld ?_
  ·intro w aa
   go_simp
  try simp only [Act.put,sa9,sb9,sc9]
  refine tk9 13 ⟨some 16,_,_,_,_,_⟩ (.bool (decide (0≤n))) rfl ?_ hHeld ?_
  ·intro w aa
   go_simp
  try simp only [Act.put,sa9,sb9,sc9]
  refine wpAnyH_ready (rs:=[14]) (by kernel_rfl) (by simp) ?_;refine AllReadyH.cons (o:=⟨some 17,_,_,_,_,_⟩) rfl (fun K hK=>?_) AllReadyH.nil;go_simp;refine ((Uh KW) _ _).mono ?_;rintro e w3 ⟨rfl,rfl⟩;go_wp2_with fail;refine hK.out _ _ ?_ (fun hHeld=>?_)
  ·exact hHeld
  clear hK K
  try simp only [Act.put,sa9,sb9,sc9]
  refine tk9 15 ⟨some 2,_,_,_,_,_⟩ (.int .i64 (x2d ((decide (0≤n))) 512)) rfl ?_ hHeld ?_
  ·intro w aa
   go_simp
  try simp only [Act.put,sa9,sb9,sc9]
  refine wpAnyH_done (by kernel_rfl) ?_ _;go_wp2;go_ret;exact ⟨rfl,hHeld⟩
theorem y9X (h:LbH w L p xv fl rtl dec) (hx:Sk .i32 w xv X) (hP:PLbC p xv X o w):Calls Tryz.prog 50 #[.pointer (some ⟨L,0,none⟩)] w (IntB w (x2d ((Lb.flg fl 2 && rtl) && o.bi) 1024)):=by
 obtain ⟨n,hn,hj⟩:=hP.r;have H0:=Hd fun W (hW:Below w.heap.size w W)=>(h.below hW).c0;have H1:=Hd fun W (hW:Below w.heap.size w W)=>(h.below hW).c1;have H3:=Hd fun W (hW:Below w.heap.size w W)=>(h.below hW).c3;have KH:=Hd fun W (hW:Below w.heap.size w W)=>y0Q (h.below hW) 2;have KC:=Hd hj;have KW:=Hd (fun b W=>x3f b 1024 W);obtain ⟨ao,cap,rfl,_,_⟩:=hx.shape;have hbd:Below w.heap.size w w.drew:=(Below.refl _ _).drew;rw [← hn];clear h hP hx hj hn;generalize Lb.flg fl 2=f at *;cases f
 ·go_enter Tryz.func50,Tryz.ntmps50
  go_wp2_with fail;refine wp_region_held_drew (S:=fun w'=>Below w.heap.size w w') (by kernel_rfl) (hbd) (fun hHeld=>?_);refine tk9 0 ⟨some 3,_,_,_,_,_⟩ (.pointer (some ⟨L,0,none⟩)) rfl ?_ hHeld ?_
  ·intro w aa
   go_simp
  try simp only [Act.put,sa9,sb9,sc9]
  refine wpAnyH_ready (rs:=[1]) (by kernel_rfl) (by simp) ?_;refine AllReadyH.cons (o:=⟨some 4,_,_,_,_,_⟩) rfl (fun K hK=>?_) AllReadyH.nil;go_simp;refine ((Uh KH) _ hHeld).mono ?_;rintro e w1 ⟨rfl,rfl⟩;go_wp2_with fail;refine hK.out _ _ ?_ (fun hHeld=>?_)
  ·exact hHeld
  clear hK K
  try simp only [Act.put,sa9,sb9,sc9]
  refine tk9 2 ⟨some 5,_,_,_,_,_⟩ (.bool false) rfl ?_ hHeld ?_
  ·intro w aa
   go_simp
  try simp only [Act.put,sa9,sb9,sc9]
  refine tn9 3 ⟨some 6,_,_,_,_,_⟩ undef rfl hHeld ?_
  try simp only [Act.put,sa9,sb9,sc9]
  refine tn9 4 ⟨some 7,_,_,_,_,_⟩ undef rfl hHeld ?_
  try simp only [Act.put,sa9,sb9,sc9]
  refine tn9 5 ⟨some 8,_,_,_,_,_⟩ undef rfl hHeld ?_
  try simp only [Act.put,sa9,sb9,sc9]
  refine tn9 6 ⟨some 9,_,_,_,_,_⟩ undef rfl hHeld ?_
  try simp only [Act.put,sa9,sb9,sc9]
  refine tk9 7 ⟨some 10,_,_,_,_,_⟩ (.bool false) rfl ?_ hHeld ?_
  ·intro w aa
   go_simp
  try simp only [Act.put,sa9,sb9,sc9]
  refine tk9 8 ⟨some 11,_,_,_,_,_⟩ (.bool false) rfl ?_ hHeld ?_
  ·intro w aa
   go_simp
  try simp only [Act.put,sa9,sb9,sc9]
  refine tn9 9 ⟨some 12,_,_,_,_,_⟩ undef rfl hHeld ?_
  try simp only [Act.put,sa9,sb9,sc9]
  refine tn9 10 ⟨some 13,_,_,_,_,_⟩ undef rfl hHeld ?_
  try simp only [Act.put,sa9,sb9,sc9]
  refine tn9 11 ⟨some 14,_,_,_,_,_⟩ undef rfl hHeld ?_
  try simp only [Act.put,sa9,sb9,sc9]
  refine tn9 12 ⟨some 15,_,_,_,_,_⟩ undef rfl hHeld ?_
  try simp only [Act.put,sa9,sb9,sc9]
  refine tn9 13 ⟨some 16,_,_,_,_,_⟩ undef rfl hHeld ?_
  try simp only [Act.put,sa9,sb9,sc9]
  refine tn9 14 ⟨some 17,_,_,_,_,_⟩ undef rfl hHeld ?_
  try simp only [Act.put,sa9,sb9,sc9]
  refine tn9 15 ⟨some 18,_,_,_,_,_⟩ undef rfl hHeld ?_
  try simp only [Act.put,sa9,sb9,sc9]
  refine tn9 16 ⟨some 19,_,_,_,_,_⟩ undef rfl hHeld ?_
  try simp only [Act.put,sa9,sb9,sc9]
  refine tn9 17 ⟨some 20,_,_,_,_,_⟩ undef rfl hHeld ?_
  try simp only [Act.put,sa9,sb9,sc9]
  refine tn9 18 ⟨some 21,_,_,_,_,_⟩ undef rfl hHeld ?_
  try simp only [Act.put,sa9,sb9,sc9]
  refine tk9 19 ⟨some 22,_,_,_,_,_⟩ (.bool false) rfl ?_ hHeld ?_
  ·intro w aa
   go_simp
  try simp only [Act.put,sa9,sb9,sc9]
  refine wpAnyH_ready (rs:=[20]) (by kernel_rfl) (by simp) ?_;refine AllReadyH.cons (o:=⟨some 23,_,_,_,_,_⟩) rfl (fun K hK=>?_) AllReadyH.nil;go_simp;refine ((Uh KW) _ _).mono ?_;rintro e w3 ⟨rfl,rfl⟩;go_wp2_with fail;refine hK.out _ _ ?_ (fun hHeld=>?_)
  ·exact hHeld
  clear hK K
  try simp only [Act.put,sa9,sb9,sc9]
  refine tk9 21 ⟨some 2,_,_,_,_,_⟩ (.int .i64 (x2d (false) 1024)) rfl ?_ hHeld ?_
  ·intro w aa
   go_simp
  try simp only [Act.put,sa9,sb9,sc9]
  refine wpAnyH_done (by kernel_rfl) ?_ _;go_wp2;go_ret;exact ⟨rfl,hHeld⟩
 cases rtl
 ·go_enter Tryz.func50,Tryz.ntmps50
  go_wp2_with fail;refine wp_region_held_drew (S:=fun w'=>Below w.heap.size w w') (by kernel_rfl) (hbd) (fun hHeld=>?_);refine tk9 0 ⟨some 3,_,_,_,_,_⟩ (.pointer (some ⟨L,0,none⟩)) rfl ?_ hHeld ?_
  ·intro w aa
   go_simp
  try simp only [Act.put,sa9,sb9,sc9]
  refine wpAnyH_ready (rs:=[1]) (by kernel_rfl) (by simp) ?_;refine AllReadyH.cons (o:=⟨some 4,_,_,_,_,_⟩) rfl (fun K hK=>?_) AllReadyH.nil;go_simp;refine ((Uh KH) _ hHeld).mono ?_;rintro e w1 ⟨rfl,rfl⟩;go_wp2_with fail;refine hK.out _ _ ?_ (fun hHeld=>?_)
  ·exact hHeld
  clear hK K
  try simp only [Act.put,sa9,sb9,sc9]
  refine tk9 2 ⟨some 5,_,_,_,_,_⟩ (.bool true) rfl ?_ hHeld ?_
  ·intro w aa
   go_simp
  try simp only [Act.put,sa9,sb9,sc9]
  refine tk9 3 ⟨some 6,_,_,_,_,_⟩ (.pointer (some ⟨L,0,none⟩)) rfl ?_ hHeld ?_
  ·intro w aa
   go_simp
  try simp only [Act.put,sa9,sb9,sc9]
  refine tk9 4 ⟨some 7,_,_,_,_,_⟩ (.pointer (some ⟨L,0,none⟩)) rfl ?_ hHeld ?_
  ·intro w aa
   go_simp
  try simp only [Act.put,sa9,sb9,sc9]
  refine tk9 5 ⟨some 8,_,_,_,_,_⟩ (.pointer (some ⟨L,3,none⟩)) rfl ?_ hHeld ?_
  ·intro w aa
   go_simp
  try simp only [Act.put,sa9,sb9,sc9]
  refine tk9 6 ⟨some 9,_,_,_,_,_⟩ (.bool false) rfl ?_ hHeld ?_
  ·intro w aa
   have z:=(Uh H3) _ aa; go_simp
  try simp only [Act.put,sa9,sb9,sc9]
  refine tk9 7 ⟨some 10,_,_,_,_,_⟩ (.bool false) rfl ?_ hHeld ?_
  ·intro w aa
   go_simp
  try simp only [Act.put,sa9,sb9,sc9]
  refine tk9 8 ⟨some 11,_,_,_,_,_⟩ (.bool false) rfl ?_ hHeld ?_
  ·intro w aa
   go_simp
  try simp only [Act.put,sa9,sb9,sc9]
  refine tn9 9 ⟨some 12,_,_,_,_,_⟩ undef rfl hHeld ?_
  try simp only [Act.put,sa9,sb9,sc9]
  refine tn9 10 ⟨some 13,_,_,_,_,_⟩ undef rfl hHeld ?_
  try simp only [Act.put,sa9,sb9,sc9]
  refine tn9 11 ⟨some 14,_,_,_,_,_⟩ undef rfl hHeld ?_
  try simp only [Act.put,sa9,sb9,sc9]
  refine tn9 12 ⟨some 15,_,_,_,_,_⟩ undef rfl hHeld ?_
  try simp only [Act.put,sa9,sb9,sc9]
  refine tn9 13 ⟨some 16,_,_,_,_,_⟩ undef rfl hHeld ?_
  try simp only [Act.put,sa9,sb9,sc9]
  refine tn9 14 ⟨some 17,_,_,_,_,_⟩ undef rfl hHeld ?_
  try simp only [Act.put,sa9,sb9,sc9]
  refine tn9 15 ⟨some 18,_,_,_,_,_⟩ undef rfl hHeld ?_
  try simp only [Act.put,sa9,sb9,sc9]
  refine tn9 16 ⟨some 19,_,_,_,_,_⟩ undef rfl hHeld ?_
  try simp only [Act.put,sa9,sb9,sc9]
  refine tn9 17 ⟨some 20,_,_,_,_,_⟩ undef rfl hHeld ?_
  try simp only [Act.put,sa9,sb9,sc9]
  refine tn9 18 ⟨some 21,_,_,_,_,_⟩ undef rfl hHeld ?_
  try simp only [Act.put,sa9,sb9,sc9]
  refine tk9 19 ⟨some 22,_,_,_,_,_⟩ (.bool false) rfl ?_ hHeld ?_
  ·intro w aa
   go_simp
  try simp only [Act.put,sa9,sb9,sc9]
  refine wpAnyH_ready (rs:=[20]) (by kernel_rfl) (by simp) ?_;refine AllReadyH.cons (o:=⟨some 23,_,_,_,_,_⟩) rfl (fun K hK=>?_) AllReadyH.nil;go_simp;refine ((Uh KW) _ _).mono ?_;rintro e w3 ⟨rfl,rfl⟩;go_wp2_with fail;refine hK.out _ _ ?_ (fun hHeld=>?_)
  ·exact hHeld
  clear hK K
  try simp only [Act.put,sa9,sb9,sc9]
  refine tk9 21 ⟨some 2,_,_,_,_,_⟩ (.int .i64 (x2d (false) 1024)) rfl ?_ hHeld ?_
  ·intro w aa
   go_simp
  try simp only [Act.put,sa9,sb9,sc9]
  refine wpAnyH_done (by kernel_rfl) ?_ _;go_wp2;go_ret;exact ⟨rfl,hHeld⟩
 ·go_enter Tryz.func50,Tryz.ntmps50
  go_wp2_with fail;refine wp_region_held_drew (S:=fun w'=>Below w.heap.size w w') (by kernel_rfl) (hbd) (fun hHeld=>?_);refine tk9 0 ⟨some 3,_,_,_,_,_⟩ (.pointer (some ⟨L,0,none⟩)) rfl ?_ hHeld ?_
  ·intro w aa
   go_simp
  try simp only [Act.put,sa9,sb9,sc9]
  refine wpAnyH_ready (rs:=[1]) (by kernel_rfl) (by simp) ?_;refine AllReadyH.cons (o:=⟨some 4,_,_,_,_,_⟩) rfl (fun K hK=>?_) AllReadyH.nil;go_simp;refine ((Uh KH) _ hHeld).mono ?_;rintro e w1 ⟨rfl,rfl⟩;go_wp2_with fail;refine hK.out _ _ ?_ (fun hHeld=>?_)
  ·exact hHeld
  clear hK K
  try simp only [Act.put,sa9,sb9,sc9]
  refine tk9 2 ⟨some 5,_,_,_,_,_⟩ (.bool true) rfl ?_ hHeld ?_
  ·intro w aa
   go_simp
  try simp only [Act.put,sa9,sb9,sc9]
  refine tk9 3 ⟨some 6,_,_,_,_,_⟩ (.pointer (some ⟨L,0,none⟩)) rfl ?_ hHeld ?_
  ·intro w aa
   go_simp
  try simp only [Act.put,sa9,sb9,sc9]
  refine tk9 4 ⟨some 7,_,_,_,_,_⟩ (.pointer (some ⟨L,0,none⟩)) rfl ?_ hHeld ?_
  ·intro w aa
   go_simp
  try simp only [Act.put,sa9,sb9,sc9]
  refine tk9 5 ⟨some 8,_,_,_,_,_⟩ (.pointer (some ⟨L,3,none⟩)) rfl ?_ hHeld ?_
  ·intro w aa
   go_simp
  try simp only [Act.put,sa9,sb9,sc9]
  refine tk9 6 ⟨some 9,_,_,_,_,_⟩ (.bool true) rfl ?_ hHeld ?_
  ·intro w aa
   have z:=(Uh H3) _ aa; go_simp
  try simp only [Act.put,sa9,sb9,sc9]
  refine tk9 7 ⟨some 10,_,_,_,_,_⟩ (.bool true) rfl ?_ hHeld ?_
  ·intro w aa
   go_simp
  try simp only [Act.put,sa9,sb9,sc9]
  refine tk9 8 ⟨some 11,_,_,_,_,_⟩ (.bool true) rfl ?_ hHeld ?_
  ·intro w aa
   go_simp
  try simp only [Act.put,sa9,sb9,sc9]
  refine tk9 9 ⟨some 12,_,_,_,_,_⟩ (.pointer (some ⟨L,0,none⟩)) rfl ?_ hHeld ?_
  ·intro w aa
   go_simp
  try simp only [Act.put,sa9,sb9,sc9]
  refine tk9 10 ⟨some 13,_,_,_,_,_⟩ (.pointer (some ⟨L,0,none⟩)) rfl ?_ hHeld ?_
  ·intro w aa
   go_simp
  try simp only [Act.put,sa9,sb9,sc9]
  refine tk9 11 ⟨some 14,_,_,_,_,_⟩ (.pointer (some ⟨L,0,none⟩)) rfl ?_ hHeld ?_
  ·intro w aa
   go_simp
  try simp only [Act.put,sa9,sb9,sc9]
  refine tk9 12 ⟨some 15,_,_,_,_,_⟩ (.pointer (some ⟨p,0,none⟩)) rfl ?_ hHeld ?_
  ·intro w aa
   have z:=(Uh H0) _ aa; go_simp
  try simp only [Act.put,sa9,sb9,sc9]
  refine tk9 13 ⟨some 16,_,_,_,_,_⟩ (.pointer (some ⟨L,0,none⟩)) rfl ?_ hHeld ?_
  ·intro w aa
   go_simp
  try simp only [Act.put,sa9,sb9,sc9]
  refine tk9 14 ⟨some 17,_,_,_,_,_⟩ (.pointer (some ⟨L,0,none⟩)) rfl ?_ hHeld ?_
  ·intro w aa
   go_simp
  try simp only [Act.put,sa9,sb9,sc9]
  refine tk9 15 ⟨some 18,_,_,_,_,_⟩ (.pointer (some ⟨L,1,none⟩)) rfl ?_ hHeld ?_
  ·intro w aa
   go_simp
  try simp only [Act.put,sa9,sb9,sc9]
  refine tk9 16 ⟨some 19,_,_,_,_,_⟩ (.slice ao X.length cap) rfl ?_ hHeld ?_
  ·intro w aa
   have z:=(Uh H1) _ aa; go_simp
  try simp only [Act.put,sa9,sb9,sc9]
  refine wpAnyH_ready (rs:=[17]) (by kernel_rfl) (by simp) ?_;refine AllReadyH.cons (o:=⟨some 20,_,_,_,_,_⟩) rfl (fun K hK=>?_) AllReadyH.nil;go_simp;refine ((Uh KC) _ hHeld).mono ?_;rintro e w2 ⟨rfl,b2⟩;go_wp2_with fail;refine hK.out _ _ ?_ (fun hHeld=>?_)
  ·exact x0b hHeld b2
  clear hK K
  try simp only [Act.put,sa9,sb9,sc9]
  refine tk9 18 ⟨some 21,_,_,_,_,_⟩ (.bool (n != 0)) rfl ?_ hHeld ?_
  ·intro w aa
   go_simp
  try simp only [Act.put,sa9,sb9,sc9]
  refine tk9 19 ⟨some 22,_,_,_,_,_⟩ (.bool (n != 0)) rfl ?_ hHeld ?_
  ·intro w aa
   go_simp
  try simp only [Act.put,sa9,sb9,sc9]
  refine wpAnyH_ready (rs:=[20]) (by kernel_rfl) (by simp) ?_;refine AllReadyH.cons (o:=⟨some 23,_,_,_,_,_⟩) rfl (fun K hK=>?_) AllReadyH.nil;go_simp;refine ((Uh KW) _ _).mono ?_;rintro e w3 ⟨rfl,rfl⟩;go_wp2_with fail;refine hK.out _ _ ?_ (fun hHeld=>?_)
  ·exact hHeld
  clear hK K
  try simp only [Act.put,sa9,sb9,sc9]
  refine tk9 21 ⟨some 2,_,_,_,_,_⟩ (.int .i64 (x2d ((n != 0)) 1024)) rfl ?_ hHeld ?_
  ·intro w aa
   go_simp
  try simp only [Act.put,sa9,sb9,sc9]
  refine wpAnyH_done (by kernel_rfl) ?_ _;go_wp2;go_ret;exact ⟨rfl,hHeld⟩
end
def gk18:Nat→Nat
 | 0=>42
 | 1=>43
 | 2=>44
 | 3=>45
 | 4=>46
 | 5=>47
 | 6=>48
 | 7=>49
 | _=>50
def Crs18 (w:World) (L s:Nat):Prop:=∀ k,k<9→w.cell? ⟨s,k,none⟩=some (.func (.func (gk18 k)) #[.pointer (some ⟨L,0,none⟩)] #[])
theorem y0I {k:Nat} (hk:k<9):∀ args w,(callFunc (gk18 k) args).run Tryz.prog w=.ok (.enter (gk18 k) args) w:=by
 match k,hk with
 | 0,_=>exact enters_of Tryz.func42 (by kernel_rfl) rfl
 | 1,_=>exact enters_of Tryz.func43 (by kernel_rfl) rfl
 | 2,_=>exact enters_of Tryz.func44 (by kernel_rfl) rfl
 | 3,_=>exact enters_of Tryz.func45 (by kernel_rfl) rfl
 | 4,_=>exact enters_of Tryz.func46 (by kernel_rfl) rfl
 | 5,_=>exact enters_of Tryz.func47 (by kernel_rfl) rfl
 | 6,_=>exact enters_of Tryz.func48 (by kernel_rfl) rfl
 | 7,_=>exact enters_of Tryz.func49 (by kernel_rfl) rfl
 | 8,_=>exact enters_of Tryz.func50 (by kernel_rfl) rfl
 | n+9,h=>exact absurd h (by omega)
theorem y7V {w:World} {L p:Nat} {xv:Value} {fl:Int} {rtl dec:Bool} {X:List Int} {o:Lb.Of} (h:LbH w L p xv fl rtl dec) (hx:Sk .i32 w xv X) (h0:0<X.length) (ai:X.length≤1000) (hP:PLbC p xv X o w) {k:Nat} (hk:k<9):Calls Tryz.prog (gk18 k) #[.pointer (some ⟨L,0,none⟩)] w (IntB w ((Lb.part o fl rtl dec X k:Nat):Int)):=by
 have g:∀ {m:Nat} {b:Bool} (n:Nat),Calls Tryz.prog m #[.pointer (some ⟨L,0,none⟩)] w (IntB w (x2d b n))→Calls Tryz.prog m #[.pointer (some ⟨L,0,none⟩)] w (IntB w ((if b=true then n else 0:Nat):Int)):=fun {m b} n h=>by
  have e:((if b=true then n else 0:Nat):Int)=x2d b n:=(by cases b <;> rfl);rw [e]; exact h
 match k,hk with
 | 0,_=>exact g 4 (y9P h hx hP)
 | 1,_=>exact g 8 (y9Q h hx h0 ai)
 | 2,_=>exact g 16 (y9R h hx)
 | 3,_=>exact g 32 (y9S h hx)
 | 4,_=>exact g 64 (y9T h hx h0 hP)
 | 5,_=>exact g 128 (y9U h hx hP)
 | 6,_=>exact g 256 (y9V h hx)
 | 7,_=>exact g 512 (y9W h hx hP)
 | 8,_=>exact g 1024 (y9X h hx hP)
 | n+9,h=>exact absurd h (by omega)
def CrB18 (w:World) (L:Nat) (e:Ending) (w':World):Prop:=∃ s,e=.returned (.slice (some ⟨s,0,none⟩) 9 9)∧Crs18 w' L s∧Below w.heap.size w w'
theorem y0F (L:Nat) (w:World):Calls Tryz.prog 24 #[.pointer (some ⟨L,0,none⟩)] w (CrB18 w L):=by
 have hmf:∀ (fn:Fn) (first cap:Array Value) (w:World),(Instr.makeFunc fn first cap).run Tryz.prog w=.ok (.func fn first cap) w:=fun _ _ _ _=>rfl;go_enter Tryz.func24,Tryz.ntmps24;go_wp2;go_ret;refine ⟨w.heap.size,rfl,fun k hk=>?_,(Below.refl _ _).alloc (Nat.le_refl _) _⟩
 match k,hk with
 | 0,_=>exact x3o _ _ rfl (by simp [gk18])
 | 1,_=>exact x3o _ _ rfl (by simp [gk18])
 | 2,_=>exact x3o _ _ rfl (by simp [gk18])
 | 3,_=>exact x3o _ _ rfl (by simp [gk18])
 | 4,_=>exact x3o _ _ rfl (by simp [gk18])
 | 5,_=>exact x3o _ _ rfl (by simp [gk18])
 | 6,_=>exact x3o _ _ rfl (by simp [gk18])
 | 7,_=>exact x3o _ _ rfl (by simp [gk18])
 | 8,_=>exact x3o _ _ rfl (by simp [gk18])
 | n+9,h=>exact absurd h (by omega)
theorem y9G {w:World} {p:Nat} {xv:Value} {X:List Int} {o:Lb.Of} (hP:PLbC p xv X o w) (hx:Sk .i32 w xv X) (ai:X.length≤1000) (fl:Int) (rtl dec:Bool):Calls Tryz.prog 9 #[.pointer (some ⟨p,0,none⟩),xv,.int .i64 fl,.bool rtl,.bool dec] w (IntB w ((Lb.err o fl rtl dec X:Nat):Int)):=by
 have ah:=hx.len;unfold Lb.err;rcases Nat.eq_zero_or_pos X.length with h0 | h0
 ·rw [if_pos h0]
  obtain ⟨ao,cap,rfl,_,_⟩:=hx.shape;rw [h0];clear hP hx;go_enter Tryz.func9,Tryz.ntmps9;go_wp2;go_ret;exact ⟨rfl,Below.refl _ _⟩
 ·rw [if_neg (by omega),← Lb.y7E]
  have hzl:((X.length:Int)==0)=false:=(by rw [beq_eq_false_iff_ne]; omega);have al:∀ o,Below w.heap.size w (w.alloc o):=fun o=>(Below.refl _ _).alloc (Nat.le_refl _) o
  have HL:Hid (LbH (w.alloc (.cells #[.pointer (some ⟨p,0,none⟩),xv,.int .i64 fl,.bool rtl,.bool dec] 54)) w.heap.size p xv fl rtl dec):=by
   show (w.heap.push _)[w.heap.size]?=_;simp
  have HK:Hid (∀ W k,Below w.heap.size w W→LbH W w.heap.size p xv fl rtl dec→k<9→Calls Tryz.prog (gk18 k) #[.pointer (some ⟨w.heap.size,0,none⟩)] W (IntB W ((Lb.part o fl rtl dec X k:Nat):Int))):=fun W k hW hl hk=>y7V hl (hx.below hW) h0 ai (hP.on hW) hk;have ag:Hid (∀ k,bits .or .i64 ((Lb.acc (Lb.part o fl rtl dec X) k:Nat):Int) ((Lb.part o fl rtl dec X k:Nat):Int)=((Lb.acc (Lb.part o fl rtl dec X) (k+1):Nat):Int)):=fun k=>Bd.or17 (Lb.x6Z k) (Lb.y3W k);have HZ:Hid (Lb.acc (Lb.part o fl rtl dec X) 0=0):=rfl;have K:=Hd (fun W=>y0F w.heap.size W);have aj:=Hd (al (.cells #[.pointer (some ⟨p,0,none⟩),xv,.int .i64 fl,.bool rtl,.bool dec] 54));obtain ⟨ao,cap,rfl,_,_⟩:=hx.shape;clear hP hx al;generalize Lb.acc (Lb.part o fl rtl dec X)=ac at *;generalize Lb.part o fl rtl dec X=pt at *;go_enter Tryz.func9,Tryz.ntmps9;go_wp2_with fail;refine ((Uh K) _).mono ?_;rintro e w1 ⟨s,rfl,hc,b1⟩;have af:=Hd ((Uh HL).below b1);have ad:=Hd (x0b (Uh aj) b1);have HC:=Hd hc;clear K HL aj hc b1;go_wp2;go_loopw [12,14,28] (fun bv _ iv wr=>∃ k:Nat,bv=.int .i64 ((ac k:Nat):Int)∧iv=.int .i64 k∧k≤9∧Below w1.heap.size w1 wr) (fun _ _ iv _=>9 - (intOf iv).toNat)
  case atStart=>exact ⟨0,by rw [Uh HZ]; rfl,rfl,by omega,Below.refl _ _⟩
  case round =>
   obtain ⟨k,rfl,rfl,hk,ab⟩:=hrel;by_cases hlt:k<9
   ·have hL:(k:Int)<9:=by omega
    have x1:wr.cell? ⟨s,k,none⟩=some (.func (.func (gk18 k)) #[.pointer (some ⟨w.heap.size,0,none⟩)] #[]):=(by rw [ab.cell (x0a ((Uh HC) k hlt))]; exact (Uh HC) k hlt);have KC:=Hd ((Uh HK) wr k (x0b (Uh ad) ab) ((Uh af).below ab) hlt);have HE:=Hd ((Uh ag) k);have eg:=y0I hlt;have ak:=Hd ab;clear ab HK ag HZ HC af ad;generalize gk18 k=g at *;go_wp2_with (go_at_fn g; refine (Uh KC).mono ?_; rintro e w2 ⟨rfl,b2⟩);have ap:=Hd (x0b (Uh ak) b2);clear KC ak b2
    go_roundw
    case rel=>exact ⟨k+1,by rw [Uh HE],by go_num,by omega,Uh ap⟩
    case measure=>simp [intOf]; omega
   ·obtain rfl:k=9:=by omega
    have HF:=Hd (x0b (Uh ad) ab);clear ab HK ag HZ HC af ad;go_wp2;go_ret;exact ⟨rfl,Uh HF⟩
end Go.Proofs.YtkglkajjofidoaaGreatDoor
