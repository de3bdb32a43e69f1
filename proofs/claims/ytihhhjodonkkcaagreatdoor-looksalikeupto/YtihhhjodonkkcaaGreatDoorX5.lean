/- CcL7 CcM7 CcN7 Um9 CcO7 CcQ7 -/
import Derived.Test.YtihhhjodonkkcaaGreatDoorX6
import Derived.Shelf.SlSortCmp.WholeK
import Derived.Test.YtihhhjodonkkcaaGreatDoorX9
namespace Go.Proofs.YtihhhjodonkkcaaGreatDoor
open Go.RowKit
def Cn.wpair (l:List Rec) (c a b:Int):Bool:=decide (Cn.cls l c≠0) || decide (Cn.cls l a≠0) || decide (Cn.opn l b≠[]) || (decide (Cn.opn l a≠[]) && (Cn.prim l a).isNone) || decide (b<128) || decide (a=46)
theorem Cn.pair_w l i r:Cn.pair l i r=(!(Cn.wpair l r.lo (r.to.getD 0 0) (r.to.getD 1 0)) && !((l.take i).any fun k=>decide (k.kind=7∧k.to.getD 0 0=r.to.getD 0 0∧k.to.getD 1 0=r.to.getD 1 0))):=rfl
theorem nil_len {zs:List Int}:decide (zs≠[])=decide (0<zs.length):=by
 cases zs <;> simp
theorem OpB.sk {w0 w w1 v zs} (h:Sk .i32 w0 v zs∨Ok .i32 21 w1 w.heap.size v zs) (hw:Below w0.heap.size w0 w) (hb:Below w.heap.size w w1):Sk .i32 w1 v zs:=by
 rcases h with h | h
 ·exact (h.below hw).below hb
 ·exact h.sk
set_option maxRecDepth 8000 in
set_option maxHeartbeats 8000000 in
theorem wpair_any l cs os cv ov mr c a b w (hg:Glob w) (h:Idx l w cv ov cs os) (hc:Rune c) (ha:Rune a) (hb':Rune b):Calls Tryz.prog 120 #[xV cv ov (.map (some mr)),.int .i32 c,.int .i32 a,.int .i32 b] w (BoolB w (Cn.wpair l c a b)):=by
 obtain ⟨cao,ccap,rfl,_,_⟩:=h.rc.shape
 obtain ⟨oao,ocap,rfl,_,_⟩:=h.ro.shape
 obtain ⟨Q,hQ⟩:∃ Q,w.alloc (.cells #[.slice cao cs.length ccap,.slice oao os.length ocap,.map (some mr)] 125)=Q:=⟨_,rfl⟩
 have hb:Below w.heap.size w Q:=hQ ▸ (Below.refl _ _).alloc (Nat.le_refl _) _
 have hsz:Q.heap.size=w.heap.size+1:=by rw [← hQ]; simp
 have hbx:Q.heap[w.heap.size]?=some (.cells #[.slice cao cs.length ccap,.slice oao os.length ocap,.map (some mr)] 125 (0,0)):=by
  rw [← hQ]
  show (w.heap.push _)[w.heap.size]?=_
  simp
 have HB:=fun W (hW:Below Q.heap.size Q W)=>hb.trans (hW.mono (by omega))
 have HX:=Hd fun W hW=>And.intro (HB W hW) (cells3 ((hW.block _ (by omega)).trans hbx))
 have K1:=Hd fun W hW=>xclass_any l cs os _ _ mr c W (hg.on (HB W hW)) (h.below (HB W hW)) hc
 have K2:=Hd fun W hW=>xclass_any l cs os _ _ mr a W (hg.on (HB W hW)) (h.below (HB W hW)) ha
 have K3:=Hd fun W hW=>xopen_any l cs os _ _ mr b w W hg h (HB W hW) hb'
 have K4:=Hd fun W hW=>xopen_any l cs os _ _ mr a w W hg h (HB W hW) ha
 have K5:=Hd fun W hW=>xprim_any l cs os _ _ mr a W (hg.on (HB W hW)) (h.below (HB W hW)) ha
 obtain ⟨V,hV⟩:∃ V,Cn.wpair l c a b=V:=⟨_,rfl⟩
 rw [hV]
 have HF:Hid (∀ z W,V=z→Below Q.heap.size Q W→BoolB w V (.returned (.bool z)) W):=fun z W e hW=>⟨by rw [e],HB W hW⟩
 have HV:Hid (V=(decide (Cn.cls l c≠0) || decide (Cn.cls l a≠0) || decide (0<(Cn.opn l b).length) || (decide (0<(Cn.opn l a).length) && !(Cn.prim l a).isSome) || decide (b<128) || decide (a=46))):=hV.symm.trans (by
  unfold Cn.wpair
  rw [nil_len,nil_len]
  cases Cn.prim l a <;> rfl)
 have hB:=Below.refl Q.heap.size Q
 clear HB h hg hc ha hb' hV hb hsz hbx
 generalize Cn.cls l c=n1 at *
 generalize Cn.cls l a=n2 at *
 generalize Cn.opn l b=z3 at *
 generalize Cn.opn l a=z4 at *
 generalize (Cn.prim l a).isSome=p5 at *
 unfold xV at *
 subst hQ
 go_enter Tryz.func120,Tryz.ntmps120
 go_wp2_with fail
 refine (Uh K1 _ hB).mono ?_
 rintro e wr ⟨rfl,b1⟩
 replace hB:=bthen hB b1
 clear b1 K1
 obtain ⟨_,y0,y1,y2⟩:=Uh HX _ hB
 rcases Decidable.em (n1=0) with rfl | q
 rotate_left
 ·have d:(n1 != 0)=true:=by simp [q]
  have H:=Uh HF true _ ((Uh HV).trans (by simp [q])) hB
  clear HV HX HF hB K2 K3 K4 K5 q
  go_wp2
  go_ret
  exact H
 go_wp2_with fail
 refine (Uh K2 _ hB).mono ?_
 rintro e wr ⟨rfl,b1⟩
 replace hB:=bthen hB b1
 clear b1 K2 y0 y1 y2
 obtain ⟨_,y0,y1,y2⟩:=Uh HX _ hB
 rcases Decidable.em (n2=0) with rfl | q
 rotate_left
 ·have d:(n2 != 0)=true:=by simp [q]
  have H:=Uh HF true _ ((Uh HV).trans (by simp [q])) hB
  clear HV HX HF hB K3 K4 K5 q
  go_wp2
  go_ret
  exact H
 go_wp2_with fail
 refine (Uh K3 _ hB).mono ?_
 rintro e wr ⟨v,rfl,hk,b1⟩
 obtain ⟨ao,cap,rfl,_,_⟩:=(OpB.sk hk (Uh HX _ hB).1 b1).shape
 clear hk
 replace hB:=bthen hB b1
 clear b1 K3 y0 y1 y2
 obtain ⟨_,y0,y1,y2⟩:=Uh HX _ hB
 rcases Nat.eq_zero_or_pos z3.length with q | q
 rotate_left
 ·have d:(0:Int)<(z3.length:Int):=by omega
  have H:=Uh HF true _ ((Uh HV).trans (by simp [q])) hB
  clear HV HX HF hB K4 K5
  go_wp2
  go_ret
  exact H
 obtain rfl:=List.eq_nil_of_length_eq_zero q
 clear q
 go_wp2_with fail
 refine (Uh K4 _ hB).mono ?_
 rintro e wr ⟨v,rfl,hk,b1⟩
 obtain ⟨ao,cap,rfl,_,_⟩:=(OpB.sk hk (Uh HX _ hB).1 b1).shape
 clear hk
 replace hB:=bthen hB b1
 clear b1 K4 y0 y1 y2
 obtain ⟨_,y0,y1,y2⟩:=Uh HX _ hB
 rcases Nat.eq_zero_or_pos z4.length with q | q
 ·obtain rfl:=List.eq_nil_of_length_eq_zero q
  clear q K5
  have HV:Hid (V=(decide (b<128) || decide (a=46))):=(Uh HV).trans (by simp)
  by_cases q6:b<128
  ·have H:=Uh HF true _ ((Uh HV).trans (by simp [q6])) hB
   clear HV HX HF hB
   go_wp2
   go_ret
   exact H
  have d6:decide (b<128)=false:=decide_eq_false q6
  by_cases q7:a=46
  ·subst q7
   have H:=Uh HF true _ ((Uh HV).trans (by simp [q6])) hB
   clear HV HX HF hB
   go_wp2
   go_ret
   exact H
  have d7:(a==46)=false:=beq_eq_false_iff_ne.2 q7
  have H:=Uh HF false _ ((Uh HV).trans (by simp [q6,q7])) hB
  clear HV HX HF hB q7
  go_wp2
  go_ret
  exact H
 have d:(0:Int)<(z4.length:Int):=by omega
 go_wp2_with fail
 refine (Uh K5 _ hB).mono ?_
 rintro e wr ⟨rfl,b1⟩
 replace hB:=bthen hB b1
 clear b1 K5 y0 y1 y2
 obtain ⟨_,y0,y1,y2⟩:=Uh HX _ hB
 cases p5
 ·have H:=Uh HF true _ ((Uh HV).trans (by simp [q])) hB
  clear HV HX HF hB
  go_wp2
  go_ret
  exact H
 have HV:Hid (V=(decide (b<128) || decide (a=46))):=(Uh HV).trans (by simp)
 by_cases q6:b<128
 ·have H:=Uh HF true _ ((Uh HV).trans (by simp [q6])) hB
  clear HV HX HF hB
  go_wp2
  go_ret
  exact H
 have d6:decide (b<128)=false:=decide_eq_false q6
 by_cases q7:a=46
 ·subst q7
  have H:=Uh HF true _ ((Uh HV).trans (by simp [q6])) hB
  clear HV HX HF hB
  go_wp2
  go_ret
  exact H
 have d7:(a==46)=false:=beq_eq_false_iff_ne.2 q7
 have H:=Uh HF false _ ((Uh HV).trans (by simp [q6,q7])) hB
 clear HV HX HF hB q7
 go_wp2
 go_ret
 exact H
open Go.RowKit Go.Sort Go.Shelf
abbrev Sp:=Rec × Option Addr × Nat × Nat
def sval (x:Sp):Value:=.slice x.2.1 x.2.2.1 x.2.2.2
def encR (x:Sp):List Value:=rcell (x.1,sval x)
theorem encR_len (x:Sp):(encR x).length=8:=rfl
theorem encR_one (x:Sp):∀ v∈encR x,v.oneCell'=true:=rec_one x.1 rfl
def loOf (x y:Sp):Int:=Lib.compareInt x.1.lo y.1.lo
theorem ltLo (x y:Sp):ltOf loOf x y=decide (x.1.lo<y.1.lo):=by
 unfold ltOf loOf Lib.compareInt
 by_cases h1:x.1.lo<y.1.lo
 ·simp [h1]
 ·grind
theorem swoLo:SWO (ltOf loOf):={
 irrefl:=fun x=>by rw [ltLo]; simp
 trans:=fun x y z h1 h2=>by rw [ltLo] at *; simp at *; omega
 ntrans:=fun x y z h1 h2=>by rw [ltLo] at *; simp at *; omega }
set_option maxRecDepth 8000 in
set_option maxHeartbeats 1000000 in
theorem byLo_any (x y:Sp) W:Calls Tryz.prog 116 #[.agg (encR x).toArray,.agg (encR y).toArray] W fun e w'=>e=.returned (.int .i64 (loOf x y))∧∃ q os',w'=grow (W.drewN q) os':=by
 have K:=Hd (fun W=>compareI_any x.1.lo y.1.lo W)
 have e:Lib.compareInt x.1.lo y.1.lo=loOf x y:=rfl
 rw [e] at K
 obtain ⟨a,ao,al,ac⟩:=x
 obtain ⟨b,bo,bl,bc⟩:=y
 show Calls Tryz.prog 116 #[.agg #[.int .i64 a.kind,.int .i64 a.lo,.int .i64 a.hi,.int .i64 a.n,.slice ao al ac,.string a.name,.string a.other,.float .f64 a.wt],.agg #[.int .i64 b.kind,.int .i64 b.lo,.int .i64 b.hi,.int .i64 b.n,.slice bo bl bc,.string b.name,.string b.other,.float .f64 b.wt]] W _
 go_enter Tryz.func116,Tryz.ntmps116
 go_wp2_with fail
 refine ((Uh K) _).mono ?_
 rintro e w1 ⟨rfl,rfl⟩
 go_wp2
 go_ret
 exact ⟨rfl,0,_,by rw [alloc_eq_grow,alloc_eq_grow,grow_grow]; rfl⟩
def Lists (w0:World) (xs:List Sp):Prop:=∀ x∈xs,Sk .i32 w0 (sval x) x.1.to∧RecFit x.1
def Rsh (w0 w:World) (v:Value) (xs:List Sp):Prop:=w.ownsRow w0.heap.size 59 8 v xs.length (xs.flatMap encR)∧Lists w0 xs
def Rsx (w0 w:World) (v:Value) (xs:List Sp):Prop:=Lists w0 xs∧((xs=[]∧∃ ao cap,v=.slice ao 0 cap∧cap≤9223372036854775807) ∨
 ∃ blk cap,v=.slice (some ⟨blk,0,none⟩) xs.length cap∧w0.heap.size≤blk∧blk<w.heap.size∧xs.length≤cap∧cap≤9223372036854775807∧∀ i j,i<xs.length→j<8→w.cell? ⟨blk,i * 8+j,none⟩=some ((encR (xs.getD i (Cn.none,none,0,0)))[j]!))
theorem flat_rcells (xs:List Sp):xs.flatMap encR=rcells (xs.map fun x=>(x.1,sval x)):=by
 induction xs with
 | nil=>rfl
 | cons x xs ih=>rw [List.flatMap_cons,ih]; rfl
theorem flat_at (xs:List Sp) i j (hi:i<xs.length) (hj:j<8):(xs.flatMap encR)[i * 8+j]?=some ((encR (xs.getD i (Cn.none,none,0,0)))[j]!):=by
 rw [flat_rcells,rcells_at _ i j (by simpa using hi) hj]
 have e:(xs.map fun x=>(x.1,sval x)).getD i (Cn.none,undef)=((xs.getD i (Cn.none,none,0,0)).1,sval (xs.getD i (Cn.none,none,0,0))):=by grind
 rw [e]
 show (encR (xs.getD i (Cn.none,none,0,0)))[j]?=_
 have hl:=encR_len (xs.getD i (Cn.none,none,0,0))
 rw [List.getElem?_eq_getElem (by rw [hl]; exact hj),getElem!_pos _ j (by rw [hl]; exact hj)]
theorem Rsx.keep {w0 w w' v} {xs:List Sp} (h:Rsx w0 w v xs) (hs:w.heap.size≤w'.heap.size) (hk:∀ g,v.ownBlock=some g→w'.heap[g]?=w.heap[g]?):Rsx w0 w' v xs:=by
 refine ⟨h.1,?_⟩
 rcases h.2 with h2 | ⟨blk,cap,rfl,h1,h2,h3,h4,h5⟩
 ·exact .inl h2
 ·exact .inr ⟨blk,cap,rfl,h1,by omega,h3,h4,fun i j hi hj=>by rw [World.cell?_of_block (hk blk rfl)]; exact h5 i j hi hj⟩
theorem Rsx.rcs {w0 w v} {xs:List Sp} (h:Rsx w0 w v xs) (hw:Below w0.heap.size w0 w) (hl:xs.length≤1000000000):Rcs w v (xs.map (·.1)):=by
 refine ⟨by simpa using hl,fun r hr=>?_,?_⟩
 ·obtain ⟨x,hx,rfl⟩:=List.mem_map.1 hr
  exact (h.1 x hx).2
 ·rcases h.2 with ⟨rfl,ao,cap,rfl,hc⟩ | ⟨blk,cap,rfl,h1,h2,h3,h4,h5⟩
  ·exact .inl ⟨rfl,ao,cap,rfl,hc⟩
  ·refine .inr ⟨blk,0,cap,by simp,by simpa using h3,h4,fun i hi=>?_⟩
   rw [List.length_map] at hi
   have e:(xs.map (·.1)).getD i Cn.none=(xs.getD i (Cn.none,none,0,0)).1:=by grind
   have hm:xs.getD i (Cn.none,none,0,0)∈xs:=by grind
   rw [e,Nat.zero_add]
   exact ⟨h5 i 0 hi (by omega),h5 i 1 hi (by omega),h5 i 2 hi (by omega),h5 i 3 hi (by omega),⟨_,h5 i 4 hi (by omega),(h.1 _ hm).1.below hw⟩,h5 i 5 hi (by omega),h5 i 6 hi (by omega),h5 i 7 hi (by omega)⟩
theorem Rsh.rsx {w0 w v} {xs:List Sp} (h:Rsh w0 w v xs):Rsx w0 w v xs:=by
 refine ⟨h.2,?_⟩
 have h1:=h.1
 rcases h.1.2 with ⟨rfl,h0⟩ | ⟨g,cap,cur,rfl,hg,hh,hn,hcap,hsz,htake⟩
 ·grind
 ·refine .inr ⟨g,cap,rfl,hg,(h1.lt g rfl).2,hn,by unfold maxLen at hcap; omega,fun i j hi hj=>?_⟩
  have e:=h1.cells (g:=g) rfl (i * 8+j) _ (flat_at xs i j hi hj)
  rw [addr_add,Nat.zero_add] at e
  exact e
theorem Rsh.holds [Inhabited Rec] {w0 w} {xs:List Sp} {g cap} (h:Rsh w0 w (.slice (some ⟨g,0,none⟩) xs.length cap) xs):HoldsK encR 8 w g 0 xs.toArray:=by
 intro j hj
 rw [size_flatK] at hj
 have hj2:j<xs.length * 8:=by simpa using hj
 rw [get_flatK _ _ _ _ hj]
 have hd:j / 8<xs.length:=by omega
 have e:=h.1.cells (g:=g) rfl j _ (by
  have:=flat_at xs (j / 8) (j % 8) hd (by omega)
  rw [show j / 8 * 8+j % 8=j by omega] at this
  exact this)
 rw [addr_add,Nat.zero_add] at e
 have ed:xs.toArray[j / 8]! = xs.getD (j / 8) (Cn.none,none,0,0):=by grind
 rw [ed,Nat.zero_add]
 refine ⟨e,?_⟩
 rcases h.1.2 with ⟨hv,_⟩ | ⟨g',cap',cur,hv,_,hh,_⟩
 ·simp at hv
 ·simp only [Value.slice.injEq,Option.some.injEq,Addr.mk.injEq,and_true] at hv
  obtain ⟨rfl,_,_⟩:=hv
  exact frozen_of hh
theorem sort_grown [Inhabited Rec] {w:World} {blk n} {d:Array Sp} {os:Array Obj}:w.grownBy (sortWorldK encR 8 w blk 0 n d os) (some blk):=by
 refine ⟨rfl,rfl,rfl,?_,fun k hk hne=>?_⟩
 ·show w.heap.size≤((putRowK encR 8 (Sort.ahead w n) blk 0 d).heap++os).size
  rw [Array.size_append]
  have:(putRowK encR 8 (Sort.ahead w n) blk 0 d).heap.size=w.heap.size:=by unfold putRowK; rw [size_putRow]; rfl
  omega
 ·show ((putRowK encR 8 (Sort.ahead w n) blk 0 d).heap++os)[k]?=_
  have hs:(putRowK encR 8 (Sort.ahead w n) blk 0 d).heap.size=w.heap.size:=by unfold putRowK; rw [size_putRow]; rfl
  rw [Array.getElem?_append_left (by omega)]
  show (w.heap.modify blk _)[k]?=_
  rw [Array.getElem?_modify,if_neg (fun e=>hne (by rw [e]))]
set_option maxRecDepth 8000 in
set_option maxHeartbeats 2000000 in
theorem ins_nil p cap fv w:Calls Tryz.prog 168 #[.slice p 0 cap,.int .i64 0,.int .i64 0,fv] w fun e w'=>e=.returned (.tuple #[])∧w'=w:=by
 go_enter Tryz.func168,Tryz.ntmps168
 go_wp2
 refine wp_loop_rounds 1 ?_
 rw [rounds_succ]
 go_wp2
 go_end0
 exact ⟨rfl,rfl⟩
set_option maxRecDepth 8000 in
set_option maxHeartbeats 2000000 in
theorem pdq_nil p cap lim fv w:Calls Tryz.prog 142 #[.slice p 0 cap,.int .i64 0,.int .i64 0,.int .i64 lim,fv] w fun e w'=>e=.returned (.tuple #[])∧w'=w:=by
 have hi:=fun W=>ins_nil p cap fv W
 go_enter Tryz.func142,Tryz.ntmps142
 go_wp2
 refine wp_loop_rounds 1 ?_
 rw [rounds_succ]
 go_wp2_with (go_at_call 168; refine (hi _).mono ?_; rintro e w' ⟨rfl,rfl⟩)
 (try simp only [Exit.inBlock,Exit.then]); refine bodyPost_ret (results_none rfl _ _ _) rfl ?_
 exact ⟨rfl,rfl⟩
set_option maxRecDepth 8000 in
set_option maxHeartbeats 2000000 in
theorem sort_nil p cap fv w:Calls Tryz.prog 115 #[.slice p 0 cap,fv] w fun e w'=>e=.returned (.tuple #[])∧w'=w:=by
 have hl:∀ W,Calls Tryz.prog 59 #[.int .u64 0] W fun e w'=>e=.returned (.int .i64 0)∧w'=W:=fun W =>
  Any.bits_Len (SlLaysF0.n15.bits (P:=Tryz.prog) (ρ:=Tryz.lays115_ren) { Tryz.lays115 with }) 0 W (by omega) (by omega)
 have hp:=fun lim W=>pdq_nil p cap lim fv W
 go_enter Tryz.func115,Tryz.ntmps115
 go_wp2_with (first | (go_at_call 59; refine (hl _).mono ?_; rintro e w' ⟨rfl,rfl⟩) | (go_at_call 142; refine (hp _ _).mono ?_; rintro e w' ⟨rfl,rfl⟩))
 go_end0
 exact ⟨rfl,rfl⟩
def SortB (w0 w:World) (v:Value) (xs:List Sp) (e:Ending) (w':World):Prop:=e=.returned (.tuple #[])∧∃ xs':List Sp,xs'.Perm xs∧(xs'.Pairwise fun a b=>a.1.lo≤b.1.lo)∧Rsx w0 w' v xs'∧w.grownBy w' v.ownBlock
theorem sort_any w0 w v (xs:List Sp) (h:Rsh w0 w v xs) (hl:xs.length≤1000000000):Calls Tryz.prog 115 #[v,.func (.func 116) #[] #[]] w (SortB w0 w v xs):=by
 have inh:Inhabited Rec:=⟨Cn.none⟩
 rcases h.1.2 with ⟨rfl,h0⟩ | ⟨g,cap,cur,rfl,hg,hh,hn,hcap,hsz,htake⟩
 ·obtain rfl:xs=[]:=List.eq_nil_of_length_eq_zero h0
  refine (sort_nil none 0 _ w).mono ?_
  rintro e w' ⟨rfl,rfl⟩
  exact ⟨rfl,[],List.Perm.refl _,.nil,h.rsx,⟨rfl,rfl,rfl,Nat.le_refl _,fun _ _ _=>rfl⟩⟩
 ·have hlt:=(h.1.lt g rfl).2
  have hH:=h.holds
  have eg:∀ args w,(callFunc 116 args).run Tryz.prog w=.ok (.enter 116 args) w:=enters_of Tryz.func116 (by kernel_rfl) rfl
  have hcmp:CmpLays Tryz.prog 116 #[] encR 8 loOf g 0 xs.toArray.size w:=fun _ _ _ _ x y=>byLo_any x y _
  have aE:∀ w,(isAgg 59).run Tryz.prog w=.ok true w:=Tryz.isAgg59
  have zE:∀ w,(Go.sizeOf 59).run Tryz.prog w=.ok 8 w:=Tryz.sizeOf59
  have K:=AnyQ.slices_SortFunc Tryz.lays115 8 aE zE encR encR_len encR_one loOf swoLo 116 #[] g 0 cap xs.toArray w eg hcmp hH hlt (by simp; omega)
  change Calls Tryz.prog 115 #[.slice (some ⟨g,0,none⟩) xs.length cap,_] w _ at K
  refine K.mono ?_
  rintro e w' ⟨rfl,d',n,os,⟨p1,_,p3⟩,hs,rfl⟩
  have hds:d'.size=xs.length:=by simpa using p1
  have hper:d'.toList.Perm xs:=by
   have e1:d'.extract 0 xs.toArray.size=d':=by grind
   rw [e1] at p3
   simpa using p3
  have hw':SWK encR 8 w g 0 d' (sortWorldK encR 8 w g 0 n d' os):=⟨n,os,rfl⟩
  have hh':=hw'.holds hlt hH p1
  refine ⟨rfl,d'.toList,hper,?_,⟨fun x hx=>h.2 x (hper.mem_iff.1 hx),.inr ⟨g,cap,by rw [show d'.toList.length=xs.length by simpa using hds],hg,hw'.lt hlt,by rw [Array.length_toList,hds]; exact hn,by unfold maxLen at hcap; omega,fun i j hi hj=>?_⟩⟩,sort_grown⟩
  ·rw [List.pairwise_iff_getElem]
   intro i j hi hj hij
   have:=hs i j (Nat.zero_le _) hij (by simp at hj ⊢; omega)
   rw [ltLo,decide_eq_false_iff_not] at this
   rw [getElem!_pos d' j (by simpa using hj),getElem!_pos d' i (by simpa using hi)] at this
   simp only [Array.getElem_toList]
   omega
  ·rw [Array.length_toList] at hi
   have:=(hh'.cell (i:=i) (c:=j) hi hj).1
   rw [Nat.zero_add] at this
   rw [this,getElem!_pos d' i hi]
   simp [List.getD,hi]
open Go.RowKit Go.MapKept Go.WideMaps
open Go.ChangeMaps (setBlock)
theorem pairLaw2:KeyLaw Tryz.prog 168:=deep_law_laid laidOut7 (m:=3) (by decide) (of_decide_eq_true (by kernel_rfl)) (by kernel_rfl) (by kernel_rfl)
def pk2 (a b:Int):Value:=.agg #[.int .i32 a,.int .i32 b]
theorem cellsPk2:Tryz.prog.cellsOf 168=2:=by kernel_rfl
theorem cellsRn:Tryz.prog.cellsOf 21=1:=by kernel_rfl
theorem keyTypePk2:Tryz.prog.keyType 168=true:=by kernel_rfl
theorem keyLits_rn {a} (h:Rune a) D:Tryz.prog.keyLits (D+1) 21 [.int .i32 a]=some [.int .i32 a]:=by
 rw [Program.keyLits.eq_def]
 simp only [Tryz.underlying21]
 have hw:(Lit.int .i32 a).wf=true:=by
  unfold Rune at h
  simp [Lit.wf,IntKind.min,IntKind.max,IntKind.signed,IntKind.bits]; omega
 rw [if_pos ⟨trivial,hw⟩]
theorem keyLits_pk2 {a b} (ha:Rune a) (hb:Rune b) D:Tryz.prog.keyLits (D+2) 168 [.int .i32 a,.int .i32 b]=some [.int .i32 a,.int .i32 b]:=by
 rw [Program.keyLits.eq_def]
 simp only [Tryz.underlying168,cellsPk2,cellsRn]
 rw [if_pos (show [Value.int .i32 a,Value.int .i32 b].length=2 from rfl)]
 have e:List.range 2=[0,1]:=rfl
 rw [e]
 simp [List.mapM_cons,keyLits_rn ha D,keyLits_rn hb D]
theorem pk2_key {a b} (ha:Rune a) (hb:Rune b):∃ l,keyOf Tryz.prog 168 (pk2 a b)=some l:=by
 have hf:(pk2 a b).formed Tryz.prog 168=true:=by
  simp [pk2,Value.formed,Tryz.underlying168,cellsPk2]
 obtain ⟨n,hn⟩:∃ n,Tryz.prog.types.size+1=n+2:=⟨Tryz.prog.types.size - 1,by have:0<Tryz.prog.types.size:=of_decide_eq_true (by kernel_rfl); omega⟩
 refine ⟨.string (keyBytes [.int .i32 a,.int .i32 b]),?_⟩
 unfold keyOf
 simp only [Tryz.underlying168,keyTypePk2,hf,Bool.and_self,if_true,hn]
 show (Tryz.prog.keyLits (n+2) 168 [.int .i32 a,.int .i32 b]).map _=_
 rw [keyLits_pk2 ha hb n]
 rfl
theorem pk2_inj {a b a' b'} (h:pk2 a b=pk2 a' b'):a=a'∧b=b':=by
 unfold pk2 at h
 simpa using h
structure PObj (es:Array MapEntry) (clock:Nat) (c:Int→Int→Option Int):Prop where
 st:Stamped es clock
 keys:∀ x∈es.toList,∃ a b n,x.key=pk2 a b∧x.val=.int .i64 n∧c a b=some n∧Rune a∧Rune b
 none:∀ a b,(∀ x∈es.toList,x.key≠pk2 a b)→c a b=none
def PAt (w:World) (r:Nat) (c:Int→Int→Option Int):Prop:=∃ es clock,w.heap[r]?=some (.map es clock)∧PObj es clock c
theorem PObj.ks {es:Array MapEntry} {clock} {c:Int→Int→Option Int} (h:PObj es clock c):∀ x∈es.toList,∃ l,keyOf Tryz.prog 168 x.key=some l:=fun x hx=>by
 obtain ⟨a,b,n,e,_,_,ha,hb⟩:=h.keys x hx
 rw [e]
 exact pk2_key ha hb
theorem pempty:PObj #[] 0 (fun _ _=>none):=⟨⟨fun x hx=>by simp at hx,by simp,by simp⟩,fun x hx=>by simp at hx,fun _ _ _=>rfl⟩
theorem look_ok {w r} {c:Int→Int→Option Int} (h:PAt w r c) {a b} (ha:Rune a) (hb':Rune b) :
  (Instr.lookup 123 (.map (some r)) (pk2 a b) true).run Tryz.prog w=.ok (.tuple #[.int .i64 ((c a b).getD 0),.bool (c a b).isSome]) w∧(Instr.lookup 123 (.map (some r)) (pk2 a b) false).run Tryz.prog w=.ok (.int .i64 ((c a b).getD 0)) w:=by
 obtain ⟨es,clock,hb,h⟩:=h
 obtain ⟨l,hl⟩:=pk2_key ha hb'
 rcases pairLaw2.find w hl es.toList h.ks with ⟨h1,h2⟩ | ⟨j,e0,h1,h2,h3⟩
 ·rw [h.none a b h2]
  refine ⟨?_,?_⟩
  ·simp [Instr.lookup,run_underlying Tryz.underlying123,MapKept.run_getObj_map hb,pairLaw2.check w _ hl,h1,Result.andThen]
  ·simp [Instr.lookup,run_underlying Tryz.underlying123,MapKept.run_getObj_map hb,pairLaw2.check w _ hl,h1,Result.andThen]
 ·obtain ⟨a',b',n,e1,e2,e3,_,_⟩:=h.keys e0 (List.mem_of_getElem? h2)
  obtain ⟨rfl,rfl⟩:=pk2_inj (e1.symm.trans h3)
  rw [e3]
  refine ⟨?_,?_⟩
  ·simp [Instr.lookup,run_underlying Tryz.underlying123,MapKept.run_getObj_map hb,pairLaw2.check w _ hl,h1,Result.andThen,e2]
  ·simp [Instr.lookup,run_underlying Tryz.underlying123,MapKept.run_getObj_map hb,pairLaw2.check w _ hl,h1,Result.andThen,e2]
def setP (c:Int→Int→Option Int) (a b n:Int):Int→Int→Option Int:=fun x y=>if x=a∧y=b then some n else c x y
theorem run_update {w r} {c:Int→Int→Option Int} (h:PAt w r c) {a b} (ha:Rune a) (hb':Rune b) (hn:c a b=none) n :
  ∃ es' clock',(Instr.mapUpdate 123 (.map (some r)) (pk2 a b) (.int .i64 n)).run Tryz.prog w=.ok () (setBlock w r (.map es' clock'))∧PObj es' clock' (setP c a b n):=by
 obtain ⟨es,clock,hb,h⟩:=h
 obtain ⟨l,hl⟩:=pk2_key ha hb'
 rcases pairLaw2.find w hl es.toList h.ks with ⟨h1,h2⟩ | ⟨j,e0,h1,h2,h3⟩
 ·refine ⟨es.push ⟨pk2 a b,.int .i64 n,clock⟩,clock+1,?_,⟨stamped_push h.st h2,fun x hx=>?_,fun a' b' hn'=>?_⟩⟩
  ·simp [Instr.mapUpdate,run_underlying Tryz.underlying123,MapKept.run_getObj_map hb,pairLaw2.check w false hl,h1,MapKept.run_setObj_map _ hb,Result.andThen,setBlock]
  ·simp only [Array.toList_push,List.mem_append,List.mem_singleton] at hx
   rcases hx with hx | rfl
   ·obtain ⟨a',b',m,e1,e2,e3,e4⟩:=h.keys x hx
    refine ⟨a',b',m,e1,e2,?_,e4⟩
    unfold setP
    rw [if_neg,e3]
    rintro ⟨rfl,rfl⟩
    rw [hn] at e3; cases e3
   ·exact ⟨a,b,n,rfl,rfl,by unfold setP; rw [if_pos ⟨rfl,rfl⟩],ha,hb'⟩
  ·unfold setP
   rw [if_neg]
   ·exact h.none a' b' fun x hx=>hn' x (by simp [hx])
   ·rintro ⟨rfl,rfl⟩
    exact hn' ⟨pk2 a' b',.int .i64 n,clock⟩ (by simp) rfl
 ·obtain ⟨a',b',m,e1,e2,e3,_,_⟩:=h.keys e0 (List.mem_of_getElem? h2)
  obtain ⟨rfl,rfl⟩:=pk2_inj (e1.symm.trans h3)
  rw [hn] at e3; cases e3
set_option maxRecDepth 8000 in
set_option maxHeartbeats 2000000 in
theorem pairOf_any r vt w (hv:Sk .i32 w vt r.to) (h2:r.to.length=2):Calls Tryz.prog 114 #[recV r vt] w fun e w'=>e=.returned (pk2 (r.to.getD 0 0) (r.to.getD 1 0))∧Below w.heap.size w w':=by
 obtain ⟨b,off,cap,rfl,_,hc,hcell⟩:=hv.place (by omega)
 have y0:=hcell 0 (by omega)
 have y1:=hcell 1 (by omega)
 rw [Nat.add_zero] at y0
 have hlt:=lt_of_cell? y0
 have Y0:∀ W,Below w.heap.size w W→W.cell? ⟨b,off,none⟩=some (.int .i32 (r.to.getD 0 0)):=fun W h=>by rw [h.cell hlt]; exact y0
 have Y1:∀ W,Below w.heap.size w W→W.cell? ⟨b,off+1,none⟩=some (.int .i32 (r.to.getD 1 0)):=fun W h=>by rw [h.cell hlt]; exact y1
 have hB:Below w.heap.size w ((w.alloc (.cells #[.int .i64 r.kind,.int .i64 r.lo,.int .i64 r.hi,.int .i64 r.n,.slice (some ⟨b,off,none⟩) 2 cap,.string r.name,.string r.other,.float .f64 r.wt] 59)).alloc (.cells #[.int .i32 0,.int .i32 0] 168)):=((Below.refl _ _).alloc (Nat.le_refl _) _).alloc (by simp) _
 have z0:=Y0 _ hB
 have z1:=Y1 _ hB
 rw [h2]
 unfold recV pk2
 generalize r.to.getD 0 0=p at *
 generalize r.to.getD 1 0=q at *
 go_enter Tryz.func114,Tryz.ntmps114
 go_wp2
 go_region
 go_wp2
 go_returns
 exact ⟨rfl,(((Below.refl _ _).alloc (Nat.le_refl _) _).alloc (by simp) _).trans ((drewB ⟨1,rfl⟩).mono (by simp; omega))⟩
open Go.RowKit Go.MapKept Go.WideMaps
open Go.ChangeMaps (setBlock)
structure KL (T:TypeId) (K:Value→Prop):Prop where
 check:∀ (w:World) (em:Bool) (v:Value),K v→(Instr.checkKey em 10000 T v).run Tryz.prog w=.ok () w
 find:∀ (w:World) (x:Value),K x→∀ es:List MapEntry,(∀ e∈es,K e.key)→((Instr.findKey T x es).run Tryz.prog w=.ok none w∧∀ e∈es,e.key≠x)∨∃ j e,(Instr.findKey T x es).run Tryz.prog w=.ok (some (j,e.val)) w∧es[j]?=some e∧e.key=x
 stays:∀ (w:World) (v:Value),K v→(Instr.keyThatStays v v).run Tryz.prog w=.ok v w
theorem KL.of {T} {K:Value→Prop} (h:KeyLaw Tryz.prog T) (hk:∀ v,K v→∃ l,keyOf Tryz.prog T v=some l):KL T K :=
 ⟨fun w em v hv=>by obtain ⟨l,hl⟩:=hk v hv; exact h.check w em hl,fun w x hx es hes=>by obtain ⟨l,hl⟩:=hk x hx; exact h.find w hl es (fun e he=>hk _ (hes e he)),fun w v hv=>by obtain ⟨l,hl⟩:=hk v hv; exact h.stays w hl⟩
structure GObj (K:Value→Prop) (es:Array MapEntry) (clock:Nat) (c:Value→Option Value):Prop where
 st:Stamped es clock
 keys:∀ x∈es.toList,K x.key∧c x.key=some x.val
 none:∀ k,(∀ x∈es.toList,x.key≠k)→c k=none
def GAt (K:Value→Prop) (w:World) (r:Nat) (c:Value→Option Value):Prop:=∃ es clock,w.heap[r]?=some (.map es clock)∧GObj K es clock c
theorem gempty (K:Value→Prop) (c:Value→Option Value) (h:∀ k,c k=none):GObj K #[] 0 c:=⟨stamped_empty 0,fun x hx=>by simp at hx,fun k _=>h k⟩
section
variable {T M E:TypeId} {K:Value→Prop} {c c':Value→Option Value} {w:World} {r:Nat} {k z v:Value}
theorem g_look (L:KL T K) (hM:Tryz.prog.underlying M=some (.map T E)) (hz:∀ w,(zeroValue E).run Tryz.prog w=.ok z w) (h:GAt K w r c) (hk:K k) :
  (Instr.lookup M (.map (some r)) k true).run Tryz.prog w=.ok (.tuple #[(c k).getD z,.bool (c k).isSome]) w∧(Instr.lookup M (.map (some r)) k false).run Tryz.prog w=.ok ((c k).getD z) w:=by
 obtain ⟨es,clock,hb,h⟩:=h
 rcases L.find w k hk es.toList (fun e he=>(h.keys e he).1) with ⟨h1,h2⟩ | ⟨j,e0,h1,h2,h3⟩
 ·rw [h.none k h2]
  refine ⟨?_,?_⟩
  ·simp [Instr.lookup,run_underlying hM,MapKept.run_getObj_map hb,L.check w _ _ hk,h1,Result.andThen,hz]
  ·simp [Instr.lookup,run_underlying hM,MapKept.run_getObj_map hb,L.check w _ _ hk,h1,Result.andThen,hz]
 ·have e1:=(h.keys e0 (List.mem_of_getElem? h2)).2
  rw [h3] at e1
  rw [e1]
  refine ⟨?_,?_⟩
  ·simp [Instr.lookup,run_underlying hM,MapKept.run_getObj_map hb,L.check w _ _ hk,h1,Result.andThen]
  ·simp [Instr.lookup,run_underlying hM,MapKept.run_getObj_map hb,L.check w _ _ hk,h1,Result.andThen]
theorem g_update (L:KL T K) (hM:Tryz.prog.underlying M=some (.map T E)) (h:GAt K w r c) (hk:K k) (h1:c' k=some v) (h2:∀ x,x≠k→c' x=c x) :
  ∃ es' clock',(Instr.mapUpdate M (.map (some r)) k v).run Tryz.prog w=.ok () (setBlock w r (.map es' clock'))∧GObj K es' clock' c':=by
 obtain ⟨es,clock,hb,h⟩:=h
 rcases L.find w k hk es.toList (fun e he=>(h.keys e he).1) with ⟨f1,f2⟩ | ⟨j,e0,f1,f2,f3⟩
 ·refine ⟨es.push ⟨k,v,clock⟩,clock+1,?_,⟨stamped_push h.st f2,fun x hx=>?_,fun x hn=>?_⟩⟩
  ·simp [Instr.mapUpdate,run_underlying hM,MapKept.run_getObj_map hb,L.check w false _ hk,f1,MapKept.run_setObj_map _ hb,Result.andThen,setBlock]
  ·simp only [Array.toList_push,List.mem_append,List.mem_singleton] at hx
   rcases hx with hx | rfl
   ·refine ⟨(h.keys x hx).1,?_⟩
    rw [h2 _ (f2 x hx)]
    exact (h.keys x hx).2
   ·exact ⟨hk,h1⟩
  ·have hxk:x≠k:=fun e=>hn ⟨k,v,clock⟩ (by simp) e.symm
   rw [h2 x hxk]
   exact h.none x fun y hy=>hn y (by simp [hy])
 ·have hje:es[j]?=some e0:=by simpa using f2
  have hjl:j<es.size:=(Array.getElem?_eq_some_iff.1 hje).1
  refine ⟨es.modify j fun e=>{ e with key:=k,val:=v },clock,?_,⟨stamped_modify h.st j _ (fun _ _=>rfl) (fun e _ he=>?_),fun x hx=>?_,fun x hn=>?_⟩⟩
  ·simp [Instr.mapUpdate,run_underlying hM,MapKept.run_getObj_map hb,L.check w false _ hk,f1,hje,f3,L.stays w _ hk,MapKept.run_setObj_map _ hb,Result.andThen,setBlock]
  ·rw [hje] at he
   cases he
   exact f3.symm
  ·obtain ⟨i,hi⟩:=List.getElem?_of_mem hx
   rw [Array.getElem?_toList,Array.getElem?_modify] at hi
   by_cases hij:j=i
   ·grind
   ·rw [if_neg hij] at hi
    have hm:x∈es.toList:=List.mem_of_getElem? (by rw [Array.getElem?_toList]; exact hi)
    have hxk:x.key≠k:=fun e=>by
     have hnd:=h.st.2.2
     have e1:(es.toList.map (·.key))[i]?=some k:=by rw [List.getElem?_map,Array.getElem?_toList,hi,Option.map_some,e]
     have e2:(es.toList.map (·.key))[j]?=some k:=by rw [List.getElem?_map,Array.getElem?_toList,hje,Option.map_some,f3]
     have hil:i<(es.toList.map (·.key)).length:=(List.getElem?_eq_some_iff.1 e1).1
     exact hij ((List.getElem?_inj hil hnd).1 (e1.trans e2.symm)).symm
    rw [h2 _ hxk]
    exact h.keys x hm
  ·have hxk:x≠k:=fun e=>by
    have hmem:(⟨k,v,e0.born⟩:MapEntry)∈(es.modify j fun e=>{ e with key:=k,val:=v }).toList:=by
     refine List.mem_of_getElem? (i:=j) ?_
     rw [Array.getElem?_toList,Array.getElem?_modify,if_pos rfl,hje]
     rfl
    exact hn _ hmem e.symm
   rw [h2 x hxk]
   refine h.none x fun y hy=>?_
   obtain ⟨i,hi⟩:=List.getElem?_of_mem hy
   rw [Array.getElem?_toList] at hi
   by_cases hij:j=i
   ·subst hij
    rw [hje] at hi
    cases hi
    rw [f3]
    exact fun e=>hxk e.symm
   ·refine hn y (List.mem_of_getElem? (i:=i) ?_)
    rw [Array.getElem?_toList,Array.getElem?_modify,if_neg hij]
    exact hi
end
namespace Cn
def isP (a b:Int) (r:Rec):Bool:=decide (r.kind=7∧r.to.getD 0 0=a∧r.to.getD 1 0=b)
def firstP (l:List Rec) (a b:Int):Option Int:=(l.findIdx? (isP a b)).map Int.ofNat
theorem firstP_snoc l r a b:firstP (l++[r]) a b=(firstP l a b).or (if isP a b r then some (l.length:Int) else Option.none):=by
 unfold firstP
 rw [List.findIdx?_append]
 cases h:l.findIdx? (isP a b) with
 | some n=>simp
 | none=>grind
theorem firstP_other {l r} (h:r.kind≠7):firstP (l++[r])=firstP l:=by
 funext a b
 rw [firstP_snoc,show isP a b r=false by unfold isP; exact decide_eq_false (fun q=>h q.1)]
 simp
theorem firstP_known {l r} (hk:(firstP l (r.to.getD 0 0) (r.to.getD 1 0)).isSome=true):firstP (l++[r])=firstP l:=by
 funext a b
 rw [firstP_snoc]
 by_cases h:isP a b r=true
 ·obtain ⟨_,rfl,rfl⟩:=of_decide_eq_true h
  obtain ⟨n,hn⟩:=Option.isSome_iff_exists.1 hk
  rw [hn]; rfl
 ·rw [if_neg h]; simp
theorem firstP_new {l r} (h7:r.kind=7) (hk:firstP l (r.to.getD 0 0) (r.to.getD 1 0)=Option.none):firstP (l++[r])=setP (firstP l) (r.to.getD 0 0) (r.to.getD 1 0) (l.length:Int):=by
 funext a b
 rw [firstP_snoc]
 unfold setP
 by_cases h:a=r.to.getD 0 0∧b=r.to.getD 1 0
 ·obtain ⟨rfl,rfl⟩:=h
  rw [hk,show isP (r.to.getD 0 0) (r.to.getD 1 0) r=true from decide_eq_true ⟨h7,rfl,rfl⟩]
  simp
 ·rw [if_neg h,show isP a b r=false from decide_eq_false (fun q=>h ⟨q.2.1.symm,q.2.2.symm⟩)]
  simp
theorem firstP_lt {l i} (hi:i<l.length) (h7:(l.getD i none).kind=7):((firstP l ((l.getD i none).to.getD 0 0) ((l.getD i none).to.getD 1 0)).getD 0<(i:Int))↔((l.take i).any fun k=>decide (k.kind=7∧k.to.getD 0 0=(l.getD i none).to.getD 0 0∧k.to.getD 1 0=(l.getD i none).to.getD 1 0))=true:=by
 have eg:l.getD i none=l[i]:=getD_at hi
 have hp:isP ((l.getD i none).to.getD 0 0) ((l.getD i none).to.getD 1 0) l[i]=true:=by
  rw [eg] at h7 ⊢
  exact decide_eq_true ⟨h7,rfl,rfl⟩
 generalize (l.getD i none).to.getD 0 0=a at *
 generalize (l.getD i none).to.getD 1 0=b at *
 have hany:((l.take i).any fun k=>decide (k.kind=7∧k.to.getD 0 0=a∧k.to.getD 1 0=b))=(l.take i).any (isP a b):=rfl
 rw [hany]
 unfold firstP
 cases hf:l.findIdx? (isP a b) with
 | none=>grind
 | some n =>
  obtain ⟨hn,hn1,hn2⟩:=List.findIdx?_eq_some_iff_getElem.1 hf
  simp only [Option.map_some,Option.getD_some,List.any_eq_true]
  constructor
  ·intro h
   have hlt:n<i:=by grind
   exact ⟨l[n],List.mem_take_iff_getElem.2 ⟨n,by omega,rfl⟩,hn1⟩
  ·rintro ⟨x,hx,hxp⟩
   obtain ⟨j,hj,rfl⟩:=List.mem_take_iff_getElem.1 hx
   have hjn:n≤j:=by grind
   show (Int.ofNat n)<(i:Int)
   have:(Int.ofNat n)=(n:Int):=rfl
   omega
end Cn
open Go.ChangeMaps (setBlock)
structure NI (w0 W:World) (c:Int→Int→Option Int) (cv ov:Value) (cxs oxs:List Sp):Prop where
 hr:W.heap[w0.heap.size]?=some (.cells #[.slice none 0 0,.slice none 0 0,.map none] 125 (0,0))
 hm:PAt W (w0.heap.size+1) c
 hx:W.heap[w0.heap.size+2]?=some (.cells #[cv,ov,.map (some (w0.heap.size+1))] 125 (0,0))
 hc:Rsh w0 W cv cxs
 ho:Rsh w0 W ov oxs
 ap:∀ g,cv.ownBlock=some g→ov.ownBlock≠some g
 bel:Below w0.heap.size w0 W
theorem heap_lt {W:World} {g o} (h:W.heap[g]?=some o):g<W.heap.size:=by grind
theorem Rsh.keep {w0 W W' v} {xs:List Sp} (h:Rsh w0 W v xs) (hk:∀ g,v.ownBlock=some g→W'.heap[g]?=W.heap[g]?):Rsh w0 W' v xs:=⟨own_keep h.1 hk,h.2⟩
theorem NI.below {w0 W W'} {c:Int→Int→Option Int} {cv ov} {cxs oxs:List Sp} (h:NI w0 W c cv ov cxs oxs) (hb:Below W.heap.size W W'):NI w0 W' c cv ov cxs oxs:=by
 obtain ⟨es,cl,hm1,hm2⟩:=h.hm
 exact ⟨by rw [hb.block _ (heap_lt h.hr)]; exact h.hr,⟨es,cl,by rw [hb.block _ (heap_lt hm1)]; exact hm1,hm2⟩,by rw [hb.block _ (heap_lt h.hx)]; exact h.hx,
  h.hc.keep fun g hg=>hb.block g (h.hc.1.lt g hg).2,h.ho.keep fun g hg=>hb.block g (h.ho.1.lt g hg).2,h.ap,bthen h.bel hb⟩
theorem rsh_tag {w0 W v} {xs:List Sp} (h:Rsh w0 W v xs) {g} (hg:v.ownBlock=some g):∃ cur,W.heap[g]?=some (.cells cur 59 (0,0)):=by
 rcases h.1.2 with ⟨rfl,_⟩ | ⟨k,cap,cur,rfl,_,hh,_⟩
 ·cases hg
 ·simp [Value.ownBlock] at hg
  subst hg
  exact ⟨cur,hh⟩
theorem NI.far {w0 W} {c:Int→Int→Option Int} {cv ov v} {cxs oxs xs:List Sp} (h:NI w0 W c cv ov cxs oxs) (hv:Rsh w0 W v xs):∀ g,v.ownBlock=some g→g≠w0.heap.size∧g≠w0.heap.size+1∧g≠w0.heap.size+2:=by
 intro g hg
 obtain ⟨cur,hcur⟩:=rsh_tag hv hg
 refine ⟨fun e=>?_,fun e=>?_,fun e=>?_⟩
 ·rw [e,h.hr] at hcur; simp at hcur
 ·obtain ⟨es,cl,hm1,_⟩:=h.hm
  rw [e,hm1] at hcur; simp at hcur
 ·rw [e,h.hx] at hcur; simp at hcur
theorem NI.classes {w0 W w1} {c:Int→Int→Option Int} {cv ov v'} {cxs oxs:List Sp} {o} {x:Sp} (h:NI w0 W c cv ov cxs oxs) (hx:Sk .i32 w0 (sval x) x.1.to∧RecFit x.1)
  (hown:w1.ownsRow w0.heap.size 59 8 v' (cxs.length+1) (cxs.flatMap encR++encR x)) (hg:(W.alloc o).grownBy w1 cv.ownBlock) (hat:v'.ownBlock=cv.ownBlock∨v'.ownBlock=some (W.heap.size+1)) :
  w1.heap[w0.heap.size+2]?=some (.cells #[cv,ov,.map (some (w0.heap.size+1))] 125 (0,0))∧NI w0 (w1.setCell ⟨w0.heap.size+2,0,none⟩ v') c v' ov (cxs++[x]) oxs:=by
 have kA:∀ g,g<W.heap.size→(W.alloc o).heap[g]?=W.heap[g]?:=fun g hg=>((Below.refl W.heap.size W).alloc (Nat.le_refl _) _).block g hg
 have k1:∀ g,g<W.heap.size→cv.ownBlock≠some g→w1.heap[g]?=W.heap[g]?:=fun g h1 h2=>by
  rw [hg.block g (by simp; omega) (fun e=>h2 e.symm),kA g h1]
 have hfar:=h.far h.hc
 have hb2:w1.heap[w0.heap.size+2]?=some (.cells #[cv,ov,.map (some (w0.heap.size+1))] 125 (0,0)):=by rw [k1 _ (heap_lt h.hx) (fun e=>(hfar _ e).2.2 rfl)]; exact h.hx
 have hnew:Rsh w0 w1 v' (cxs++[x]):=⟨by simpa using hown,fun y hy=>by
  rcases List.mem_append.1 hy with hy | hy
  ·exact h.hc.2 y hy
  ·simp only [List.mem_singleton] at hy
   subst hy; exact hx⟩
 have hold:∀ g,v'.ownBlock=some g→g≠w0.heap.size+2∧ov.ownBlock≠some g:=fun g hg'=>by
  rcases hat with e | e
  ·rw [e] at hg'
   exact ⟨(hfar g hg').2.2,h.ap g hg'⟩
  ·rw [e] at hg'
   simp at hg'
   have l1:=heap_lt h.hx
   refine ⟨by omega,fun e2=>?_⟩
   have:=(h.ho.1.lt g e2).2
   omega
 obtain ⟨es,cl,hm1,hm2⟩:=h.hm
 refine ⟨hb2,⟨?_,⟨es,cl,?_,hm2⟩,?_,?_,?_,fun g hg'=>(hold g hg').2,?_⟩⟩
 ·rw [set_other _ (by omega),k1 _ (heap_lt h.hr) (fun e=>(hfar _ e).1 rfl)]; exact h.hr
 ·rw [set_other _ (by omega),k1 _ (heap_lt hm1) (fun e=>(hfar _ e).2.1 rfl)]; exact hm1
 ·rw [set_block hb2]; rfl
 ·exact hnew.keep fun g hg'=>by rw [set_other _ (hold g hg').1]
 ·refine h.ho.keep fun g hg'=>?_
  rw [set_other _ (h.far h.ho g hg').2.2,k1 g (h.ho.1.lt g hg').2 (fun e=>h.ap g e hg')]
 ·have b1:Below w0.heap.size w0 w1:=(h.bel.alloc h.bel.size o).grown hg (by have:=h.bel.size; simp; omega) (fun k hk=>(h.hc.1.lt k hk).1)
  exact below_set b1 (by omega) v'
theorem NI.opens {w0 W w1} {c:Int→Int→Option Int} {cv ov v'} {cxs oxs:List Sp} {o} {x:Sp} (h:NI w0 W c cv ov cxs oxs) (hx:Sk .i32 w0 (sval x) x.1.to∧RecFit x.1)
  (hown:w1.ownsRow w0.heap.size 59 8 v' (oxs.length+1) (oxs.flatMap encR++encR x)) (hg:(W.alloc o).grownBy w1 ov.ownBlock) (hat:v'.ownBlock=ov.ownBlock∨v'.ownBlock=some (W.heap.size+1)) :
  w1.heap[w0.heap.size+2]?=some (.cells #[cv,ov,.map (some (w0.heap.size+1))] 125 (0,0))∧NI w0 (w1.setCell ⟨w0.heap.size+2,1,none⟩ v') c cv v' cxs (oxs++[x]):=by
 have kA:∀ g,g<W.heap.size→(W.alloc o).heap[g]?=W.heap[g]?:=fun g hg=>((Below.refl W.heap.size W).alloc (Nat.le_refl _) _).block g hg
 have k1:∀ g,g<W.heap.size→ov.ownBlock≠some g→w1.heap[g]?=W.heap[g]?:=fun g h1 h2=>by
  rw [hg.block g (by simp; omega) (fun e=>h2 e.symm),kA g h1]
 have hfar:=h.far h.ho
 have hb2:w1.heap[w0.heap.size+2]?=some (.cells #[cv,ov,.map (some (w0.heap.size+1))] 125 (0,0)):=by rw [k1 _ (heap_lt h.hx) (fun e=>(hfar _ e).2.2 rfl)]; exact h.hx
 have hnew:Rsh w0 w1 v' (oxs++[x]):=⟨by simpa using hown,fun y hy=>by
  rcases List.mem_append.1 hy with hy | hy
  ·exact h.ho.2 y hy
  ·simp only [List.mem_singleton] at hy
   subst hy; exact hx⟩
 have hold:∀ g,v'.ownBlock=some g→g≠w0.heap.size+2∧cv.ownBlock≠some g:=fun g hg'=>by
  rcases hat with e | e
  ·rw [e] at hg'
   exact ⟨(hfar g hg').2.2,fun e2=>h.ap g e2 hg'⟩
  ·rw [e] at hg'
   simp at hg'
   have l1:=heap_lt h.hx
   refine ⟨by omega,fun e2=>?_⟩
   have:=(h.hc.1.lt g e2).2
   omega
 obtain ⟨es,cl,hm1,hm2⟩:=h.hm
 refine ⟨hb2,⟨?_,⟨es,cl,?_,hm2⟩,?_,?_,?_,fun g h1 h2=>(hold g h2).2 h1,?_⟩⟩
 ·rw [set_other _ (by omega),k1 _ (heap_lt h.hr) (fun e=>(hfar _ e).1 rfl)]; exact h.hr
 ·rw [set_other _ (by omega),k1 _ (heap_lt hm1) (fun e=>(hfar _ e).2.1 rfl)]; exact hm1
 ·rw [set_block hb2]; rfl
 ·refine h.hc.keep fun g hg'=>?_
  rw [set_other _ (h.far h.hc g hg').2.2,k1 g (h.hc.1.lt g hg').2 (fun e=>h.ap g hg' e)]
 ·exact hnew.keep fun g hg'=>by rw [set_other _ (hold g hg').1]
 ·have b1:Below w0.heap.size w0 w1:=(h.bel.alloc h.bel.size o).grown hg (by have:=h.bel.size; simp; omega) (fun k hk=>(h.ho.1.lt k hk).1)
  exact below_set b1 (by omega) v'
theorem NI.upd {w0 W} {c c':Int→Int→Option Int} {cv ov} {cxs oxs:List Sp} {es:Array MapEntry} {cl} (h:NI w0 W c cv ov cxs oxs) (ho:PObj es cl c'):NI w0 (setBlock W (w0.heap.size+1) (.map es cl)) c' cv ov cxs oxs:=by
 obtain ⟨es0,cl0,hm1,_⟩:=h.hm
 have hlt:=heap_lt hm1
 refine ⟨by rw [setB_far _ _ (by omega)]; exact h.hr,⟨es,cl,setB_at _ _ _ hlt,ho⟩,by rw [setB_far _ _ (by omega)]; exact h.hx,?_,?_,h.ap,?_⟩
 ·exact h.hc.keep fun g hg=>setB_far _ _ (h.far h.hc g hg).2.1
 ·exact h.ho.keep fun g hg=>setB_far _ _ (h.far h.ho g hg).2.1
 ·exact h.bel.trans (below_setB _ W _ _ (by omega))
namespace Cn
theorem fam_two {k} (h:fam k=2):k=6:=by
 revert h
 unfold fam
 split
 ·intro e; omega
 ·omega
theorem fam_three' {k} (h:fam k=3):k=7∨k=8:=by
 revert h
 unfold fam
 split
 ·intro e; omega
 ·omega
def Apart2 (a b:Rec):Prop:=right a=0∧right b=0∧clash a b=false
theorem sorted_ordered {f} (hf:f=2∨f=3) {l cs} {p:Rec→Bool} (hl:(check6 l).2=0) (hp:∀ r,p r=true↔fam r.kind=f) (hper:cs.Perm (l.filter p)) (hs:cs.Pairwise fun a b=>a.lo≤b.lo):Ordered f cs∧∀ r,r∈cs↔r∈l∧fam r.kind=f:=by
 obtain ⟨_,hr,hc⟩:=check6_iff.1 hl
 have hm:∀ r,r∈cs↔r∈l∧fam r.kind=f:=fun r=>by rw [hper.mem_iff,List.mem_filter,hp]
 have h1:l.Pairwise Apart2:=hc.imp_of_mem fun {a b} ha hb h=>⟨hr a ha,hr b hb,h⟩
 have h2:(l.filter p).Pairwise Apart2:=h1.filter p
 have h3:cs.Pairwise Apart2:=(hper.pairwise_iff (fun {x y} ⟨a,b,c⟩=>⟨b,a,clash_no a b c⟩)).2 h2
 exact ⟨ordered_of hf (fun r hrc=>⟨hr r ((hm r).1 hrc).1,((hm r).1 hrc).2⟩) (h3.imp fun ⟨_,_,c⟩=>c) hs,hm⟩
end Cn
end Go.Proofs.YtihhhjodonkkcaaGreatDoor
