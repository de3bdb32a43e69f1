/- Ou12 -/
import Derived.Test.YtihhhjodonkkcaaGreatDoorX39
import Derived.Test.YtihhhjodonkkcaaGreatDoorX40
namespace Go.Proofs.YtihhhjodonkkcaaGreatDoor
open Go.RowKit
open Ti
set_option maxRecDepth 20000 in
set_option maxHeartbeats 1000000 in
theorem equalR12 v u xs ys w (hv:Sk .i32 w v xs) (hu:Sk .i32 w u ys) :
  Calls Tryz.prog 34 #[v,u] w (Draws w (decide (xs=ys))):=by
 have hlx:=hv.len
 have hly:=hu.len
 by_cases hn:xs.length=ys.length
 ·rcases Nat.eq_zero_or_pos xs.length with h0 | h0
  ·have HF:∀ w',(∃ m,w'=w.drewN m)→Draws w (decide (xs=ys)) (.returned (.bool true)) w':=fun w' hb=>draws_mk12 (by
    have h1:=List.eq_nil_of_length_eq_zero h0
    have h2:=List.eq_nil_of_length_eq_zero (hn ▸ h0)
    simp [h1,h2]) hb
   obtain ⟨ao,cap,rfl,_,_⟩:=hv.shape
   obtain ⟨ao',cap',rfl,_,_⟩:=hu.shape
   rw [← hn,h0]
   go_enter Tryz.func34,Tryz.ntmps34
   go_wp2
   refine wp_loop_rounds 1 ?_
   rw [rounds_succ]
   go_wp2
   go_ret
   exact HF _ (drew0 w)
  ·have HE:∀ w',(∃ m,w'=w.drewN m)→xs.take xs.length=ys.take xs.length→Draws w (decide (xs=ys)) (.returned (.bool true)) w':=fun w' hb ht=>draws_mk12 (by
    rw [List.take_length,hn,List.take_length] at ht
    simp [ht]) hb
   have HN:∀ w' k,(∃ m,w'=w.drewN m)→¬ xs.getD k 0=ys.getD k 0→Draws w (decide (xs=ys)) (.returned (.bool false)) w':=fun w' k hb ht=>draws_mk12 (by
    symm; rw [decide_eq_false_iff_not]; intro h; subst h; exact ht rfl) hb
   have HS:∀ wr,Below w.heap.size w wr→Sk .i32 wr v xs∧Sk .i32 wr u ys:=fun wr hb=>⟨hv.below hb,hu.below hb⟩
   obtain ⟨b,off,cap,rfl,hc1,hc2,hc⟩:=hv.place h0
   obtain ⟨b',off',cap',rfl,hc1',hc2',hc'⟩:=hu.place (by omega)
   have HC:∀ wr,Below w.heap.size w wr→∀ i,i<xs.length→wr.cell? ⟨b,off+i,none⟩=some (.int .i32 (xs.getD i 0))∧wr.cell? ⟨b',off'+i,none⟩=some (.int .i32 (ys.getD i 0)):=by
    intro wr hb i hi
    constructor
    ·rw [hb.cell (lt_of_cell? (hc i hi))]; exact hc i hi
    ·rw [hb.cell (lt_of_cell? (hc' i (by omega)))]; exact hc' i (by omega)
   rw [← hn] at hc1' ⊢
   have HFx:=Hd hv.1
   have HFy:=Hd hu.1
   have hln:=Hd hn
   go_enter Tryz.func34,Tryz.ntmps34
   go_wp2
   go_loopw [13] (fun i wr=>∃ k:Nat,i=.int .i64 k∧k≤xs.length∧xs.take k=ys.take k∧∃ m,wr=w.drewN m) (fun i _=>xs.length - (intOf i).toNat)
   case atStart=>exact ⟨0,rfl,by omega,by simp,drew0 w⟩
   case round =>
    obtain ⟨k,rfl,hk,htk,hbel⟩:=hrel
    by_cases hlt:k<xs.length
    ·obtain ⟨c1,c2⟩:=HC _ (drewB hbel) k hlt
     have HT:=Hd htk
     cases he:(xs.getD k 0 != ys.getD k 0) with
     | true =>
      have HR:=fun w' hb=>HN w' k hb (by simpa using he)
      generalize xs.getD k 0=x at *
      generalize ys.getD k 0=y at *
      go_wp2
      go_quiet (fail)
      go_wp2
      go_ret
      exact HR _ (drews hbel nq)
     | false =>
      have he':xs.getD k 0=ys.getD k 0:=by simpa using he
      have HT2:=Hd (take_next12 (Uh HT) hlt (by have:=Uh hln; omega) he')
      generalize xs.getD k 0=x at *
      go_wp2
      go_quiet (fail)
      go_wp2
      go_roundw
      case rel=>exact ⟨k+1,by go_num,by omega,Uh HT2,drews hbel nq⟩
      case measure=>simp [intOf]; omega
    ·obtain rfl:k=xs.length:=by omega
     have HR:=HE _ hbel htk
     go_wp2
     go_ret
     exact HR
 ·have HF:Draws w (decide (xs=ys)) (.returned (.bool false)) w:=draws_mk12 (by
   symm; rw [decide_eq_false_iff_not]; intro h; subst h; exact hn rfl) (drew0 w)
  have hne:((xs.length:Int) != (ys.length:Int))=true:=by simp; omega
  obtain ⟨ao,cap,rfl,_,_⟩:=hv.shape
  obtain ⟨ao',cap',rfl,_,_⟩:=hu.shape
  go_enter Tryz.func34,Tryz.ntmps34
  go_wp2
  go_ret
  exact HF
namespace Cn
theorem innerD_K (rs:List Rec):∀ (n:Nat) (l:List Int),innerD rs n l=Od.innerK (cls rs) n l
 | 0,_=>rfl
 | n+1,l=>by rw [innerD,Od.innerK,innerD_K rs n]
theorem outerD_K (rs:List Rec):∀ (f i:Nat) (l:List Int),outerD rs f i l=Od.outerK (cls rs) f i l
 | 0,_,_=>rfl
 | f+1,i,l=>by rw [outerD,Od.outerK,innerD_K,outerD_K rs f]
theorem docSort_ord {rs} (h6:(check6 rs).2=0) xs:docSort rs xs=Od.ord (cls rs) xs:=by
 unfold docSort
 rw [outerD_K,Od.outer_ord (fun c=>cls_range h6 c)]
theorem nfd_len {rs} (hk:(check rs).2=0) xs:(nfd rs xs).length≤32 * xs.length:=by
 unfold nfd
 rw [Od.ord_len (fun c=>cls_range (check_iff.1 hk).1 c)]
 exact openAll_len hk xs
end Cn
set_option maxRecDepth 8000 in
set_option maxHeartbeats 2000000 in
theorem refNFD12 {rs:List Rec} (tv v:Value) (xs:List Int) (w:World) (ht:Rcs w tv rs) (hk:(Cn.check rs).2=0) (hx:Sk .i32 w v xs) (hxl:xs.length≤65536):Calls Tryz.prog 32 #[tv,v] w (RunesNew w (Cn.nfd rs xs)):=by
 have h6:=check6_of hk
 have K1:=Hd (refOpenAll12 tv v xs w ht hk hx hxl)
 have hll:=Cn.openAll_len hk xs
 have K2:Hid (∀ v1 w1,Sk .i32 w1 v1 (Cn.openAll rs xs)→Below w.heap.size w w1→Calls Tryz.prog 52 #[tv,v1] w1 (RunesNew w1 (Cn.nfd rs xs))):=fun v1 w1 h1 h2=>by
  have:=refSort12 tv v1 _ w1 (ht.below h2) h6 h1 (by omega)
  rw [Cn.docSort_ord h6] at this
  exact this
 obtain ⟨vo,vc,hve,hv1,hv2⟩:=hx.shape
 subst hve
 obtain ⟨ta,tcp,hte,_,_⟩:=ht.shape
 subst hte
 generalize Cn.nfd rs xs=ys at *
 go_enter Tryz.func32,Tryz.ntmps32
 go_wp2_with fail
 refine (Uh K1).mono ?_
 rintro e1 w1 ⟨v1,rfl,ok1,b1⟩
 have K3:=Hd ((Uh K2) v1 w1 ok1.sk b1)
 obtain ⟨yo,yc,hye,_,_⟩:=ok1.sk.shape
 subst hye
 have HB1:=Hd b1
 go_wp2_with fail
 refine (Uh K3).mono ?_
 rintro e2 w2 ⟨v2,rfl,ok2,b2⟩
 have HF:Hid (RunesNew w ys (.returned v2) w2):=⟨_,rfl,ok2.lower (Uh HB1).size,bthen (Uh HB1) b2⟩
 obtain ⟨zo,zc,hze,_,_⟩:=ok2.sk.shape
 subst hze
 go_wp2
 go_ret
 exact Uh HF
def TruE (w:World) (b:Bool) (er:Int) (e:Ending) (w':World):Prop:=e=.returned (.tuple #[.bool b,.int .i64 er])∧Below w.heap.size w w'
theorem two_cells12 (w:World) a b ty:(w.alloc (.cells #[a,b] ty)).cell? ⟨w.heap.size,0,none⟩=some a∧(w.alloc (.cells #[a,b] ty)).cell? ⟨w.heap.size,1,none⟩=some b:=by simp_all
set_option maxRecDepth 8000 in
set_option maxHeartbeats 2000000 in
theorem sameO_any12 {B p:Nat} {rs:List Rec} (v u:Value) (xs ys:List Int) (w:World) (hg:Glob w) (hD:DataAt w B p rs) (hk:(Cn.check rs).2=0) (hx:Sk .i32 w v xs) (hy:Sk .i32 w u ys) (hxl:xs.length≤65536) (hyl:ys.length≤65536):Calls Tryz.prog 22 #[.pointer (some ⟨p,0,none⟩),v,u] w (TruE w (decide (Cn.nfd rs xs=Cn.nfd rs ys)) 0):=by
 obtain ⟨vo,vc,hve,hv1,hv2⟩:=hx.shape
 subst hve
 obtain ⟨uo,uc,hue,hu1,hu2⟩:=hy.shape
 subst hue
 obtain ⟨W0,hW0⟩:∃ W0,w.alloc (.cells #[.slice vo xs.length vc,.slice uo ys.length uc] 23)=W0:=⟨_,rfl⟩
 have hb0:Below w.heap.size w W0:=by rw [← hW0]; exact (Below.refl _ _).alloc (Nat.le_refl _) _
 have hc0:=two_cells12 w (.slice vo xs.length vc) (.slice uo ys.length uc) 23
 rw [hW0] at hc0
 have K1:=Hd (refused_any12 p w.heap.size 2 [xs.length,ys.length] W0 rfl (by omega) (fun i hi=>by
  rcases Nat.lt_succ_iff_lt_or_eq.1 hi with h | rfl
  ·obtain rfl:i=0:=by omega
   exact ⟨vo,vc,hc0.1,hv2,hv1⟩
  ·exact ⟨uo,uc,hc0.2,hu2,hu1⟩))
 rw [show refN [xs.length,ys.length]=0 by unfold refN; rw [List.any_cons,List.any_cons,decide_eq_false (by omega),decide_eq_false (by omega)]; rfl] at K1
 have K2:=Hd (normal_any12 _ xs W0 (hg.on hb0) (hD.below hb0) hk (hx.below hb0) hxl)
 have K3:Hid (∀ W,Below W0.heap.size W0 W→Calls Tryz.prog 41 #[.pointer (some ⟨p,0,none⟩),.slice uo ys.length uc] W (RunesNew W (Cn.nfd rs ys))):=fun W hW=>normal_any12 _ ys W ((hg.on hb0).on hW) ((hD.below hb0).below hW) hk ((hy.below hb0).below hW) hyl
 have HB0:=Hd hb0
 clear hg hD hk hx hy hc0 hb0
 generalize Cn.nfd rs xs=A at *
 generalize Cn.nfd rs ys=D at *
 go_enter Tryz.func22,Tryz.ntmps22
 go_wp2_with fail
 refine (Uh K1).mono ?_
 rintro e1 w1 ⟨rfl,rfl⟩
 clear K1
 go_wp2_with fail
 refine (Uh K2).mono ?_
 rintro e2 w2 ⟨v2,rfl,ok2,b2⟩
 have K4:=Hd ((Uh K3) w2 b2)
 have HS2:=Hd ok2.sk
 have HB2:=Hd (bthen (Uh HB0) b2)
 obtain ⟨yo,yc,hye,_,_⟩:=ok2.sk.shape
 subst hye
 clear K2 K3 ok2 b2 HB0 hW0
 go_wp2_with fail
 refine (Uh K4).mono ?_
 rintro e3 w3 ⟨v3,rfl,ok3,b3⟩
 have K5:=Hd (equalR12 _ _ A D w3 ((Uh HS2).below b3) ok3.sk)
 have HB3:=Hd (bthen (Uh HB2) b3)
 obtain ⟨zo,zc,hze,_,_⟩:=ok3.sk.shape
 subst hze
 clear K4 ok3 b3 HS2 HB2
 go_wp2_with fail
 refine (Uh K5).mono ?_
 rintro e4 w4 ⟨rfl,m4,rfl⟩
 have HB4:=Hd (bthen (Uh HB3) (drewB ⟨m4,rfl⟩))
 clear K5 HB3
 generalize w3.drewN m4=w4 at *
 generalize decide (A=D)=bb at *
 go_wp2
 go_ret2
 exact ⟨rfl,Uh HB4⟩
end Go.Proofs.YtihhhjodonkkcaaGreatDoor
