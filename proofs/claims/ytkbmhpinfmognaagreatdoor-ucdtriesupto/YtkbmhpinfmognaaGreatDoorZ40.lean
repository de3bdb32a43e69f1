/- Vf9 Vg9 -/
import Derived.Test.YtkbmhpinfmognaaGreatDoorZ29
namespace Go.Proofs.YtkbmhpinfmognaaGreatDoor
open Go.RowKit
open Ti
namespace Cn
def famK (k : Int) : Int:=if k = 1 then 1 else if k = 2 then 2 else if k = 3 then 4 else if k = 4 then 5 else 6
def prop (rs : List Rec) (k c : Int) : Int:=if k = 1 then stat rs c else if k = 2 then cls rs c else if k = 3 then nget rs 4 c else if k = 4 then nget rs 5 c else if (hit rs 6 c).isSome = true then 1 else 0
theorem prop_vget {rs : List Rec} (h6 : (check6 rs).2 = 0) (k c : Int) : prop rs k c = vget rs (famK k) c:=by
 unfold prop famK
 by_cases k1 : k = 1
 ·rw [if_pos k1,if_pos k1]; exact vget_status h6 c
 rw [if_neg k1,if_neg k1]
 by_cases k2 : k = 2
 ·rw [if_pos k2,if_pos k2]; exact vget_cls h6 c
 rw [if_neg k2,if_neg k2]
 by_cases k3 : k = 3
 ·rw [if_pos k3,if_pos k3]; exact vget_num h6 4 c (.inl rfl)
 rw [if_neg k3,if_neg k3]
 by_cases k4 : k = 4
 ·rw [if_pos k4,if_pos k4]; exact vget_num h6 5 c (.inr rfl)
 rw [if_neg k4,if_neg k4]
 exact (vget_mark1 h6 c).symm
theorem famK_ok (k : Int) : famK k ≠ 10 ∧ famK k ≠ 0:=by
 unfold famK
 split
 ·decide
 ·split
  ·decide
  ·split
   ·decide
   ·split <;> decide
theorem vget_out {rs : List Rec} (h6 : (check6 rs).2 = 0) {f : Int} (hf : f ≠ 10 ∧ f ≠ 0) {c : Int} (hc : c < 0 ∨ 1114111 < c) : vget rs f c = 0:=by
 unfold vget
 cases he : hit rs f c with
 | none => rfl
 | some r =>
  have hs:=((hit_iff h6 hf r).1 he).2.2
  unfold speaks at hs
  obtain ⟨_,_,c0,c1,_⟩:=of_decide_eq_true hs
  omega
end Cn
def TrieB (w : World) (B : Nat) (xs : List Tri.Rg) (e : Ending) (w' : World) : Prop:=∃ g,e = .returned (.pointer (some ⟨g,0,none⟩)) ∧ TrP w' B (.pointer (some ⟨g,0,none⟩)) xs ∧ Below w.heap.size w w'
set_option maxRecDepth 8000 in
set_option maxHeartbeats 1000000 in
theorem another_any {W : World} {B : Nat} {t : Value} {xs : List Tri.Rg} (hB : B ≤ W.heap.size) (hT : TrP W B t xs) : Calls Tryz.prog 71 #[t] W (TrieB W B xs):=by
 obtain ⟨a,m,rfl,hp,hs,t4⟩:=hT
 obtain ⟨h1,h2,g,iv,bv,hg,hgB,hh,hi,hb⟩:=id t4
 simp only [Value.pointer.injEq,Option.some.injEq] at hg
 subst hg
 have c0 : W.cell? ⟨g,0,none⟩ = some iv:=cell_of (j:=0) hh (by show 0 < 3; omega)
 have c1 : W.cell? ⟨g,1,none⟩ = some bv:=cell_of (j:=1) hh (by show 1 < 3; omega)
 have c2 : W.cell? ⟨g,2,none⟩ = some (.int .i64 0):=cell_of (j:=2) hh (by show 2 < 3; omega)
 have hb1:=(Below.refl W.heap.size W).alloc (Nat.le_refl _) (.cells #[iv,bv,.int .i64 0] 104)
 have hn1 : (W.alloc (.cells #[iv,bv,.int .i64 0] 104)).heap[W.heap.size]? = some (.cells #[iv,bv,.int .i64 0] 104 (0,0)):=by
  show (W.heap.push _)[W.heap.size]? = _
  simp
 have hF : TrieB W B xs (.returned (.pointer (some ⟨W.heap.size,0,none⟩))) (W.alloc (.cells #[iv,bv,.int .i64 0] 104)):=by
  obtain ⟨_,_,g',iv',bv',hg',_,hh',hi',hb'⟩:=t4.below hb1
  simp only [Value.pointer.injEq,Option.some.injEq,Addr.mk.injEq,and_true] at hg'
  subst hg'
  rw [hb1.block g (heap_in hh),hh] at hh'
  simp only [Option.some.injEq,Obj.cells.injEq,and_true] at hh'
  have e:=congrArg Array.toList hh'
  simp only [List.cons.injEq,and_true] at e
  obtain ⟨rfl,rfl,_⟩:=e
  exact ⟨W.heap.size,rfl,⟨_,m,rfl,hp,hs,h1,h2,W.heap.size,iv,bv,rfl,hB,hn1,hi',hb'⟩,hb1⟩
 have HF:=hide hF
 obtain ⟨io,il,ic,hie⟩ : ∃ io il ic,iv = .slice io il ic:=by
  obtain ⟨io,ic,e,_,_⟩:=hi.sk.shape
  exact ⟨io,_,ic,e⟩
 obtain ⟨bo,bn,bc,hbe⟩ : ∃ bo bn bc,bv = .slice bo bn bc:=by
  rcases hb.2.2 with ⟨e,_⟩ | ⟨g,cap,cur,e,_⟩
  ·exact ⟨_,_,_,e⟩
  ·exact ⟨_,_,_,e⟩
 subst hie hbe
 clear t4 h1 h2 hh hi hb hF hb1 hn1 hp hs
 go_enter Tryz.func71,Tryz.ntmps71
 go_wp2
 go_ret
 exact unhide HF
set_option maxRecDepth 8000 in
set_option maxHeartbeats 4000000 in
theorem trie_any9 {B p : Nat} {rs : List Rec} (k : Int) (w : World) (hB : B ≤ w.heap.size) (hD : DataAt w B p rs) (hk : 1 ≤ k ∧ k ≤ 5) : Calls Tryz.prog 36 #[.pointer (some ⟨p,0,none⟩),.int .i64 k] w (TrieB w B (Cn.rangesA (fun _ r => Cn.value r) 1 (Cn.famOf (Cn.famK k) rs))):=by
 obtain ⟨t1,t2,t3,t4,t5,a1,l1,a2,l2,a3,l3,a4,l4,a5,l5,c1,c2,x1,h1,h2,h3⟩:=hD
 have hkk : k = 1 ∨ k = 2 ∨ k = 3 ∨ k = 4 ∨ k = 5:=by omega
 rcases hkk with rfl | rfl | rfl | rfl | rfl
 ·have K:=hide (another_any hB h3.p1)
  have x : w.cell? ⟨p,0,none⟩ = some t1:=cell_of (j:=0) h1 (by show 0 < 18; omega)
  obtain ⟨a,m,e,-⟩:=h3.p1
  subst e
  clear h1 h2 h3 hk
  go_enter Tryz.func36,Tryz.ntmps36
  go_wp2_with fail
  refine (unhide K).mono ?_
  rintro e w1 ⟨g,rfl,hT,hb⟩
  have HF : Hid (TrieB w B _ (.returned (.pointer (some ⟨g,0,none⟩))) w1):=⟨g,rfl,hT,hb⟩
  clear K hT hb
  go_wp2
  go_ret
  exact unhide HF
 ·have K:=hide (another_any hB h3.p2)
  have x : w.cell? ⟨p,1,none⟩ = some t2:=cell_of (j:=1) h1 (by show 1 < 18; omega)
  obtain ⟨a,m,e,-⟩:=h3.p2
  subst e
  clear h1 h2 h3 hk
  go_enter Tryz.func36,Tryz.ntmps36
  go_wp2_with fail
  refine (unhide K).mono ?_
  rintro e w1 ⟨g,rfl,hT,hb⟩
  have HF : Hid (TrieB w B _ (.returned (.pointer (some ⟨g,0,none⟩))) w1):=⟨g,rfl,hT,hb⟩
  clear K hT hb
  go_wp2
  go_ret
  exact unhide HF
 ·have K:=hide (another_any hB h3.p3)
  have x : w.cell? ⟨p,2,none⟩ = some t3:=cell_of (j:=2) h1 (by show 2 < 18; omega)
  obtain ⟨a,m,e,-⟩:=h3.p3
  subst e
  clear h1 h2 h3 hk
  go_enter Tryz.func36,Tryz.ntmps36
  go_wp2_with fail
  refine (unhide K).mono ?_
  rintro e w1 ⟨g,rfl,hT,hb⟩
  have HF : Hid (TrieB w B _ (.returned (.pointer (some ⟨g,0,none⟩))) w1):=⟨g,rfl,hT,hb⟩
  clear K hT hb
  go_wp2
  go_ret
  exact unhide HF
 ·have K:=hide (another_any hB h3.p4)
  have x : w.cell? ⟨p,3,none⟩ = some t4:=cell_of (j:=3) h1 (by show 3 < 18; omega)
  obtain ⟨a,m,e,-⟩:=h3.p4
  subst e
  clear h1 h2 h3 hk
  go_enter Tryz.func36,Tryz.ntmps36
  go_wp2_with fail
  refine (unhide K).mono ?_
  rintro e w1 ⟨g,rfl,hT,hb⟩
  have HF : Hid (TrieB w B _ (.returned (.pointer (some ⟨g,0,none⟩))) w1):=⟨g,rfl,hT,hb⟩
  clear K hT hb
  go_wp2
  go_ret
  exact unhide HF
 ·have K:=hide (another_any hB h3.p5)
  have x : w.cell? ⟨p,4,none⟩ = some t5:=cell_of (j:=4) h1 (by show 4 < 18; omega)
  obtain ⟨a,m,e,-⟩:=h3.p5
  subst e
  clear h1 h2 h3 hk
  go_enter Tryz.func36,Tryz.ntmps36
  go_wp2_with fail
  refine (unhide K).mono ?_
  rintro e w1 ⟨g,rfl,hT,hb⟩
  have HF : Hid (TrieB w B _ (.returned (.pointer (some ⟨g,0,none⟩))) w1):=⟨g,rfl,hT,hb⟩
  clear K hT hb
  go_wp2
  go_ret
  exact unhide HF
set_option maxRecDepth 8000 in
set_option maxHeartbeats 1000000 in
theorem trie_none9 {p : Nat} (k : Int) (w : World) (hk : ¬ (1 ≤ k ∧ k ≤ 5)) : Calls Tryz.prog 36 #[.pointer (some ⟨p,0,none⟩),.int .i64 k] w fun e w' => e = .returned (.pointer none) ∧ w' = w:=by
 have b1 : (k == 1) = false:=by rw [beq_eq_false_iff_ne]; omega
 have b2 : (k == 2) = false:=by rw [beq_eq_false_iff_ne]; omega
 have b3 : (k == 3) = false:=by rw [beq_eq_false_iff_ne]; omega
 have b4 : (k == 4) = false:=by rw [beq_eq_false_iff_ne]; omega
 have b5 : (k == 5) = false:=by rw [beq_eq_false_iff_ne]; omega
 clear hk
 go_enter Tryz.func36,Tryz.ntmps36
 go_wp2
 go_ret
 exact ⟨rfl,rfl⟩
set_option maxRecDepth 8000 in
set_option maxHeartbeats 4000000 in
theorem refProperty9 (v : Value) (rs : List Rec) (k c : Int) (w : World) (hv : Rcs w v rs) (hc : Rune c) (hk : 1 ≤ k ∧ k ≤ 5) : Calls Tryz.prog 38 #[v,.int .i64 k,.int .i32 c] w (IntB w (Cn.prop rs k c)):=by
 have hkk : k = 1 ∨ k = 2 ∨ k = 3 ∨ k = 4 ∨ k = 5:=by omega
 have K1:=hide (refStatus9 v rs c w hv hc)
 have K2:=hide (refClass9 v rs c w hv hc)
 have K3:=hide (refBidi9 v rs c w hv hc)
 have K4:=hide (refJoin9 v rs c w hv hc)
 have K5:=hide (refMark9 v rs c w hv hc)
 obtain ⟨ao,cap,rfl,_,_⟩:=hv.shape
 obtain ⟨c0,c1⟩:=hc
 clear hv hk
 rcases hkk with rfl | rfl | rfl | rfl | rfl
 ·rw [show Cn.prop rs 1 c = Cn.stat rs c from rfl]
  generalize Cn.stat rs c = z at *
  go_enter Tryz.func38,Tryz.ntmps38
  go_wp2_with fail
  refine (unhide K1).mono ?_
  rintro e w1 ⟨rfl,hb⟩
  have HB:=hide hb
  clear K1 K2 K3 K4 K5 hb
  go_wp2
  go_ret
  exact ⟨rfl,unhide HB⟩
 ·rw [show Cn.prop rs 2 c = Cn.cls rs c from rfl]
  generalize Cn.cls rs c = z at *
  go_enter Tryz.func38,Tryz.ntmps38
  go_wp2_with fail
  refine (unhide K2).mono ?_
  rintro e w1 ⟨rfl,hb⟩
  have HB:=hide hb
  clear K1 K2 K3 K4 K5 hb
  go_wp2
  go_ret
  exact ⟨rfl,unhide HB⟩
 ·rw [show Cn.prop rs 3 c = Cn.nget rs 4 c from rfl]
  generalize Cn.nget rs 4 c = z at *
  go_enter Tryz.func38,Tryz.ntmps38
  go_wp2_with fail
  refine (unhide K3).mono ?_
  rintro e w1 ⟨rfl,hb⟩
  have HB:=hide hb
  clear K1 K2 K3 K4 K5 hb
  go_wp2
  go_ret
  exact ⟨rfl,unhide HB⟩
 ·rw [show Cn.prop rs 4 c = Cn.nget rs 5 c from rfl]
  generalize Cn.nget rs 5 c = z at *
  go_enter Tryz.func38,Tryz.ntmps38
  go_wp2_with fail
  refine (unhide K4).mono ?_
  rintro e w1 ⟨rfl,hb⟩
  have HB:=hide hb
  clear K1 K2 K3 K4 K5 hb
  go_wp2
  go_ret
  exact ⟨rfl,unhide HB⟩
 ·rw [show Cn.prop rs 5 c = (if (Cn.hit rs 6 c).isSome = true then 1 else 0) from rfl]
  generalize (Cn.hit rs 6 c).isSome = z at *
  clear K1 K2 K3 K4
  cases z with
  | true =>
   go_enter Tryz.func38,Tryz.ntmps38
   go_wp2_with fail
   refine (unhide K5).mono ?_
   rintro e w1 ⟨rfl,hb⟩
   have HB:=hide hb
   clear K5 hb
   go_wp2
   go_ret
   exact ⟨rfl,unhide HB⟩
  | false =>
   go_enter Tryz.func38,Tryz.ntmps38
   go_wp2_with fail
   refine (unhide K5).mono ?_
   rintro e w1 ⟨rfl,hb⟩
   have HB:=hide hb
   clear K5 hb
   go_wp2
   go_ret
   exact ⟨rfl,unhide HB⟩
end Go.Proofs.YtkbmhpinfmognaaGreatDoor
namespace Go.Proofs.YtkbmhpinfmognaaGreatDoor
open Go.RowKit
open Ti
set_option maxRecDepth 8000 in
set_option maxHeartbeats 8000000 in
theorem tries_any (v : Value) (rs0 : List Rec) (k : Int) (cv : Value) (cs : List Int) (w : World) (hg : Glob w) (hv : Rcs w v rs0) (hc : Sk .i64 w cv cs) : Calls Tryz.prog 5 #[v,.int .i64 k,cv] w (Tells w true):=by
 have K1:=hide (made_any v rs0 w hg hv)
 have hfit : ∀ r ∈ rs0.take 150,RecFit r:=fun r hr => hv.2.1 r (List.mem_of_mem_take hr)
 have hrl : (rs0.take 150).length ≤ 150:=by rw [List.length_take]; omega
 obtain ⟨ao,cap,rfl,_,hcap⟩:=hv.shape
 have HCV:=hide hc
 have hcl:=hc.len
 obtain ⟨co,ccap,hce,hcc1,hcc2⟩:=hc.shape
 subst hce
 have HG:=hide hg
 have HFIT:=hide hfit
 clear hg hv hc hfit
 generalize rs0.take 150 = rs at *
 generalize rs0.length = L at *
 go_enter Tryz.func5,Tryz.ntmps5
 go_wp2_with fail
 refine (unhide K1).mono ?_
 rintro e1 w1 ⟨b1,h1⟩
 have HB1:=hide b1
 clear K1 b1
 rcases h1 with ⟨hne,rfl⟩ | ⟨h0,p,v2,ps2,rfl,hD,r2,p2⟩
 ·have K2:=hide (told_any9 w1 ((unhide HG).on (unhide HB1)))
  clear hne
  go_wp2_with fail
  refine (unhide K2).mono ?_
  rintro e2 w2 ⟨rfl,b2⟩
  have HB2:=hide (bthen (unhide HB1) b2)
  clear K2 b2
  go_wp2
  go_ret
  exact ⟨rfl,unhide HB2⟩
 ·have h6:=(Cn.check_iff.1 h0).1
  have R2:=rcs_new r2 p2 (by omega) (unhide HFIT)
  obtain ⟨a2,cp2,hv2,_,hcp2⟩:=R2.shape
  have HR2:=hide R2
  subst hv2
  have HD:=hide hD
  have H6:=hide h6
  have hs1:=(unhide HB1).size
  clear hD R2 r2 p2 h0 h6
  by_cases hkk : 1 ≤ k ∧ k ≤ 5
  ·obtain ⟨hk1,hk5⟩:=hkk
   have K3:=hide (trie_any9 k w1 hs1 (unhide HD) ⟨hk1,hk5⟩)
   go_wp2_with fail
   refine (unhide K3).mono ?_
   rintro e3 w3 ⟨g,rfl,hT,b3⟩
   have HB3:=hide b3
   have HT:=hide hT
   have K4 : Hid (Calls Tryz.prog 37 #[.pointer (some ⟨g,0,none⟩)] w3 (Ti.IntPost w3 0)):=by
    obtain ⟨a,m,_,_,_,t4⟩:=hT
    exact default4 _ m 0 w3 ⟨_,t4⟩
   clear K3 b3 hT
   go_wp2_with fail
   refine (unhide K4).mono ?_
   rintro e4 w4 ⟨rfl,b4⟩
   have HB4:=hide b4
   clear K4 b4
   go_wp2
   go_loopw [11,12,13] (fun ii _ _ wr => ∃ j : Nat,ii = .int .i64 j ∧ j ≤ cs.length ∧ j ≤ 80 ∧ Below w4.heap.size w4 wr) (fun ii _ _ _ => 80 - (intOf ii).toNat)
   case atStart => exact ⟨0,rfl,by omega,by omega,Below.refl _ _⟩
   case round =>
    obtain ⟨j,rfl,hj1,hj2,hb⟩:=hrel
    have HB:=hide hb
    clear hb
    by_cases hjl : j < cs.length
    ·by_cases hj80 : j < 80
     ·obtain ⟨bx,ox,cqx,hex,_,_,hclx⟩:=(unhide HCV).place (by omega)
      simp only [Value.slice.injEq] at hex
      obtain ⟨rfl,h9,rfl⟩:=hex
      clear h9
      have hcell : wr.cell? ⟨bx,ox + j,none⟩ = some (.int .i64 (cs.getD j 0)):=by
       have h3:=hclx j hjl
       have hbb:=bthen (bthen (unhide HB1) (bthen (unhide HB3) (unhide HB4))) (unhide HB)
       rw [hbb.cell (lt_of_cell? h3)]; exact h3
      have hfi : Fi (cs.getD j 0):=by
       have:=(unhide HCV).1 (cs.getD j 0) (by simp [List.getD,hjl])
       exact ⟨this.1,this.2⟩
      have HGET : Hid (∀ W,Below w4.heap.size w4 W → Calls Tryz.prog 39 #[.pointer (some ⟨g,0,none⟩),.int .i64 (cs.getD j 0)] W (IntDraws W (Cn.vget rs (Cn.famK k) (cs.getD j 0)))):=fun W hW => tget ((unhide HT).below (bthen (unhide HB4) hW)) (unhide H6) (Cn.famK_ok k) _ hfi
      by_cases hin : 0 ≤ cs.getD j 0 ∧ cs.getD j 0 ≤ 1114111
      ·have KP:=hide (refProperty9 _ rs k (cs.getD j 0) wr ((unhide HR2).below (bthen (bthen (unhide HB3) (unhide HB4)) (unhide HB))) (by unfold Rune; omega) ⟨hk1,hk5⟩)
       rw [Cn.prop_vget (unhide H6)] at KP
       obtain ⟨hin1,hin2⟩:=hin
       clear hclx hfi
       generalize hcz : Cn.vget rs (Cn.famK k) (cs.getD j 0) = z at *
       clear hcz
       generalize cs.getD j 0 = c at *
       go_wp2_with fail
       refine (unhide KP).mono ?_
       rintro e5 w5 ⟨rfl,b5⟩
       have HB5:=hide (bthen (unhide HB) b5)
       have KG:=hide ((unhide HGET) w5 (unhide HB5))
       clear KP b5 HGET
       go_wp2_with fail
       refine (unhide KG).mono ?_
       rintro e6 w6 ⟨rfl,m6,rfl⟩
       have HB6:=hide (bthen (unhide HB5) (drewB ⟨m6,rfl⟩))
       clear KG
       generalize w5.drewN m6 = w6 at *
       go_wp2
       go_roundw
       case rel => exact ⟨j + 1,by go_num,by omega,by omega,unhide HB6⟩
       case measure => simp [intOf]; omega
      ·have hz : Cn.vget rs (Cn.famK k) (cs.getD j 0) = 0:=Cn.vget_out (unhide H6) (Cn.famK_ok k) (by omega)
       rw [hz] at HGET
       have KG:=hide ((unhide HGET) wr (unhide HB))
       have hin2 : cs.getD j 0 < 0 ∨ 1114111 < cs.getD j 0:=by omega
       obtain ⟨f0,f1⟩:=hfi
       clear hclx hz HGET hin
       generalize cs.getD j 0 = c at *
       rcases hin2 with hin | hin
       ·go_wp2_with fail
        refine (unhide KG).mono ?_
        rintro e6 w6 ⟨rfl,m6,rfl⟩
        have HB6:=hide (bthen (unhide HB) (drewB ⟨m6,rfl⟩))
        clear KG hcell
        generalize wr.drewN m6 = w6 at *
        go_wp2
        go_roundw
        case rel => exact ⟨j + 1,by go_num,by omega,by omega,unhide HB6⟩
        case measure => simp [intOf]; omega
       ·go_wp2_with fail
        refine (unhide KG).mono ?_
        rintro e6 w6 ⟨rfl,m6,rfl⟩
        have HB6:=hide (bthen (unhide HB) (drewB ⟨m6,rfl⟩))
        clear KG hcell
        generalize wr.drewN m6 = w6 at *
        go_wp2
        go_roundw
        case rel => exact ⟨j + 1,by go_num,by omega,by omega,unhide HB6⟩
        case measure => simp [intOf]; omega
     ·obtain rfl : j = 80:=by omega
      have HF:=hide (bthen (bthen (unhide HB1) (bthen (unhide HB3) (unhide HB4))) (unhide HB))
      clear HB HB1 HB3 HB4 HT HCV HR2
      go_wp2
      go_ret
      exact ⟨rfl,unhide HF⟩
    ·have HF:=hide (bthen (bthen (unhide HB1) (bthen (unhide HB3) (unhide HB4))) (unhide HB))
     clear HB HB1 HB3 HB4 HT HCV HR2
     go_wp2
     go_ret
     exact ⟨rfl,unhide HF⟩
  ·have K3:=hide (trie_none9 (p:=p) k w1 hkk)
   have K4:=hide (trie_any9 1 w1 hs1 (unhide HD) (by omega))
   have hor : k < 1 ∨ 5 < k:=by omega
   clear hkk
   rcases hor with hlt | hgt
   ·go_wp2_with fail
    refine (unhide K3).mono ?_
    rintro e3 w3 ⟨rfl,rfl⟩
    clear K3
    go_wp2_with fail
    refine (unhide K4).mono ?_
    rintro e4 w4 ⟨g,rfl,hT,b4⟩
    have HF:=hide (bthen (unhide HB1) b4)
    clear K4 hT b4
    go_wp2
    go_ret
    exact ⟨rfl,unhide HF⟩
   ·go_wp2_with fail
    refine (unhide K3).mono ?_
    rintro e3 w3 ⟨rfl,rfl⟩
    clear K3
    go_wp2_with fail
    refine (unhide K4).mono ?_
    rintro e4 w4 ⟨g,rfl,hT,b4⟩
    have HF:=hide (bthen (unhide HB1) b4)
    clear K4 hT b4
    go_wp2
    go_ret
    exact ⟨rfl,unhide HF⟩
end Go.Proofs.YtkbmhpinfmognaaGreatDoor
