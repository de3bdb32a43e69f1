/- Ou12 -/
import Derived.Test.YteccdnacpmbfcaaGreatDoorYO3
import Derived.Test.YteccdnacpmbfcaaGreatDoorYO4
namespace Go.Proofs.YteccdnacpmbfcaaGreatDoor
open Go.RowKit
open Ti
namespace Cn
theorem innerD_K (rs:List Rec):∀ (n:Nat) (l:List Int),innerD rs n l=Od.innerK (cls rs) n l
 | 0,_=>rfl
 | n+1,l=>by rw [innerD,Od.innerK,innerD_K rs n]
theorem outerD_K (rs:List Rec):∀ (f i:Nat) (l:List Int),outerD rs f i l=Od.outerK (cls rs) f i l
 | 0,_,_=>rfl
 | f+1,i,l=>by rw [outerD,Od.outerK,innerD_K,outerD_K rs f]
theorem docSort_ord {rs:List Rec} (h6:(check6 rs).2=0) (xs:List Int):docSort rs xs=Od.ord (cls rs) xs:=by
 unfold docSort
 rw [outerD_K,Od.outer_ord (fun c=>cls_range h6 c)]
theorem nfd_len {rs:List Rec} (hk:(check rs).2=0) (xs:List Int):(nfd rs xs).length≤32 * xs.length:=by
 unfold nfd
 rw [Od.ord_len (fun c=>cls_range (check_iff.1 hk).1 c)]
 exact openAll_len hk xs
end Cn
set_option maxRecDepth 8000 in
set_option maxHeartbeats 2000000 in
theorem refNFD12 {rs:List Rec} (tv v:Value) (xs:List Int) (w:World) (ht:Rcs w tv rs) (hk:(Cn.check rs).2=0) (hx:Sk .i32 w v xs) (hxl:xs.length≤65536):Calls Tryz.prog 24 #[tv,v] w (RunesNew w (Cn.nfd rs xs)):=by
 have h6:=check6_of hk
 have K1:=Hd (refOpenAll12 tv v xs w ht hk hx hxl)
 have hll:=Cn.openAll_len hk xs
 have K2:Hid (∀ v1 w1,Sk .i32 w1 v1 (Cn.openAll rs xs)→Below w.heap.size w w1→Calls Tryz.prog 23 #[tv,v1] w1 (RunesNew w1 (Cn.nfd rs xs))):=fun v1 w1 h1 h2=>by
  have:=refSort12 tv v1 _ w1 (ht.below h2) h6 h1 (by omega)
  rw [Cn.docSort_ord h6] at this
  exact this
 obtain ⟨vo,vc,hve,hv1,hv2⟩:=hx.shape
 subst hve
 obtain ⟨ta,tcp,hte,_,_⟩:=ht.shape
 subst hte
 clear hk hx h6 hll ht
 generalize Cn.openAll rs xs=zs at *
 generalize Cn.nfd rs xs=ys at *
 go_enter Tryz.func24,Tryz.ntmps24
 go_wp2_with fail
 refine (Uh K1).mono ?_
 rintro e1 w1 ⟨v1,rfl,ok1,b1⟩
 have K3:=Hd ((Uh K2) v1 w1 ok1.sk b1)
 obtain ⟨yo,yc,hye,_,_⟩:=ok1.sk.shape
 subst hye
 have HB1:=Hd b1
 clear K1 K2 ok1 b1
 go_wp2_with fail
 refine (Uh K3).mono ?_
 rintro e2 w2 ⟨v2,rfl,ok2,b2⟩
 have HF:Hid (RunesNew w ys (.returned v2) w2):=⟨_,rfl,ok2.lower (Uh HB1).size,bthen (Uh HB1) b2⟩
 obtain ⟨zo,zc,hze,_,_⟩:=ok2.sk.shape
 subst hze
 clear K3 ok2 b2
 go_wp2
 go_ret
 exact Uh HF
end Go.Proofs.YteccdnacpmbfcaaGreatDoor
