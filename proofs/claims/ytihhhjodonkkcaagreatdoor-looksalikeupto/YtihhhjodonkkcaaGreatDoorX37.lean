/- Oa12 Ob12 Oc12 Od12 Oe12 -/
import Derived.Test.YtihhhjodonkkcaaGreatDoorX36
import Derived.Laws.MakeOwn
namespace Go.Proofs.YtihhhjodonkkcaaGreatDoor
open Go.RowKit
open Ti
namespace Cn
theorem cls_range {rs} (h6:(check6 rs).2=0) c:0≤cls rs c∧cls rs c≤254:=by
 unfold cls
 cases he:hit rs 2 c with
 | none=>simp
 | some r =>
  obtain ⟨g1,g2,g3⟩:=(hit_iff h6 (by decide) r).1 he
  have hk:=(kind_of g2).2.1 rfl
  exact right_num ((check6_iff.1 h6).2.1 r g1) (by omega) (by omega)
end Cn
set_option maxHeartbeats 1000000 in
theorem refFull12 (v:Value) (rs:List Rec) (c:Int) (w:World) (hv:Rcs w v rs) (hc:Rune c):Calls Tryz.prog 85 #[v,.int .i32 c] w (RunesNew w (Cn.full rs c).1):=by
 have K:=Hd (refFull_any v rs c w hv hc)
 obtain ⟨c0,c1⟩:=hc
 obtain ⟨ao,cap,rfl,_,_⟩:=hv.shape
 generalize Cn.full rs c=z at *
 go_enter Tryz.func85,Tryz.ntmps85
 go_wp2_with fail
 refine (Uh K).mono ?_
 rintro e w1 ⟨v1,rfl,ok1,hb⟩
 have HF:Hid (RunesNew w z.1 (.returned v1) w1):=⟨v1,rfl,ok1,hb⟩
 go_wp2
 go_ret
 exact Uh HF
namespace Cn
def openAll (rs:List Rec) (xs:List Int):List Int:=(xs.map fun c=>(full rs c).1).flatten
theorem openAll_snoc rs (xs:List Int) {k} (hk:k<xs.length):openAll rs (xs.take (k+1))=openAll rs (xs.take k)++(full rs (xs.getD k 0)).1:=by
 unfold openAll
 rw [List.take_add_one,List.map_append,List.flatten_append,List.getElem?_eq_getElem hk]
 simp [List.getD,hk]
theorem openAll_len {rs} (h:(check rs).2=0) xs:(openAll rs xs).length≤32 * xs.length:=by
 unfold openAll
 induction xs with
 | nil=>simp
 | cons c xs ih =>
  have:=(leaves h c).2.2.1
  simp only [List.map_cons,List.flatten_cons,List.length_append,List.length_cons]
  omega
end Cn
theorem make_runes (n:Nat) w B (hB:B≤w.heap.size) (hn:n≤70000):∃ W,(Instr.makeSlice 23 (.int .i64 0) (.int .i64 (n:Int))).run Tryz.prog w=.ok (.slice (some ⟨w.heap.size,0,none⟩) 0 n) W∧Ok .i32 21 W B (.slice (some ⟨w.heap.size,0,none⟩) 0 n) []∧w.grownBy W none:=by
 obtain ⟨i0,hi,hz0,hz1,hz2⟩:=info_parts infoR9
 obtain ⟨W,h1,h2,h3⟩:=run_make_own (P:=Tryz.prog) w B 23 21 i0 (.int .i32 0) 1 Tryz.underlying23 hi hz0 hz1 .i64 .i64 n (by rw [hz2]; omega) (by unfold maxLen; omega) hB
 exact ⟨W,h1,Ok.of (fun z hz=>by cases hz) (by simp) h2 rfl rfl,h3⟩
set_option maxRecDepth 8000 in
set_option maxHeartbeats 4000000 in
theorem opened_any12 {B p rs} v xs w (hg:Glob w) (hD:DataAt w B p rs) (hk:(Cn.check rs).2=0) (hx:Sk .i32 w v xs) (hxl:xs.length≤65536):Calls Tryz.prog 60 #[.pointer (some ⟨p,0,none⟩),v] w (RunesNew w (Cn.openAll rs xs)):=by
 obtain ⟨i0,hi,hz0,hz1,hz2⟩:=info_parts infoR9
 have HX:=Hd hx
 obtain ⟨vo,vc,hve,hv1,hv2⟩:=hx.shape
 subst hve
 have HF:Hid (∀ c W,Rune c→Below w.heap.size w W→Calls Tryz.prog 24 #[.pointer (some ⟨p,0,none⟩),.int .i32 c] W (RunesNew W (Cn.full rs c).1)):=fun c W hc hW=>full_any9 c W (hg.on hW) (hD.below hW) hk hc
 have HSN:=fun k (h:k<xs.length)=>Hd (Cn.openAll_snoc rs xs h)
 have HLN:=fun k=>Hd (Cn.openAll_len hk (xs.take k))
 have HFL:=fun c=>Hd (Cn.leaves hk c).2.2.1
 have HF0:=fun c=>Hd (Cn.leaves hk c).2.1
 obtain ⟨W0,hmk,ok0,g0⟩:=make_runes xs.length w w.heap.size (Nat.le_refl _) (by omega)
 have hb0:Below w.heap.size w W0:=(Below.refl _ _).grown g0 (Nat.le_refl _) (fun k hk=>by cases hk)
 have HB0:=Hd hb0
 have HO0:=Hd ok0
 have HEND:Hid (Cn.openAll rs (xs.take xs.length)=Cn.openAll rs xs):=by grind
 go_enter Tryz.func60,Tryz.ntmps60
 go_wp2
 go_loopw [5,6,12] (fun yy _ ii wr=>∃ k:Nat,ii=.int .i64 k∧k≤xs.length∧Ok .i32 21 wr w.heap.size yy (Cn.openAll rs (xs.take k))∧Below w.heap.size w wr) (fun _ _ ii _=>xs.length - (intOf ii).toNat)
 case atStart=>exact ⟨0,rfl,by omega,Uh HO0,Uh HB0⟩
 case round =>
  obtain ⟨k,rfl,hkl,hok,hb⟩:=hrel
  by_cases hlt:k<xs.length
  ·obtain ⟨bx,ox,cqx,hex,_,_,hclx⟩:=(Uh HX).place (by omega)
   simp only [Value.slice.injEq] at hex
   obtain ⟨rfl,h9,rfl⟩:=hex
   have hcell:wr.cell? ⟨bx,ox+k,none⟩=some (.int .i32 (xs.getD k 0)):=by
    have h3:=hclx k hlt
    rw [hb.cell (lt_of_cell? h3)]; exact h3
   have hrn:Rune (xs.getD k 0):=by
    have:=(Uh HX).1 (xs.getD k 0) (by simp [List.getD,hlt])
    exact ⟨this.1,this.2⟩
   have KF:=Hd ((Uh HF) (xs.getD k 0) wr hrn hb)
   have HNX:=Hd (Uh (HSN k hlt))
   have hln:=Uh (HLN k)
   rw [List.length_take] at hln
   have hfl:=Uh (HFL (xs.getD k 0))
   have hf0:=Uh (HF0 (xs.getD k 0))
   have hbs:=hb.size
   have HB:=Hd hb
   have HOK:=Hd hok
   obtain ⟨yo,yc,hye,_,_⟩:=hok.sk.shape
   subst hye
   generalize hzs:Cn.openAll rs (xs.take k)=zs at *
   generalize hfs:(Cn.full rs (xs.getD k 0)).1=fs at *
   generalize xs.getD k 0=c at *
   have hzl:zs.length≤2097152:=by omega
   go_wp2_with fail
   refine (Uh KF).mono ?_
   rintro e1 w1 ⟨v1,rfl,ok1,b1⟩
   obtain ⟨fb,fo,fc,hfe,_,_,hfc⟩:=ok1.sk.place hf0
   subst hfe
   have hcells:∀ j u,(fs.map (Value.int .i32))[j]?=some u→w1.cell? ((⟨fb,fo,none⟩:Addr).add j)=some u:=by
    intro j u hu
    obtain ⟨hj,hu⟩:=List.getElem?_eq_some_iff.1 hu
    rw [List.length_map] at hj
    rw [addr_add,hfc j hj,← hu]
    simp [List.getD,hj]
   have hrow:w1.ownsRow w.heap.size 21 1 (.slice yo zs.length yc) zs.length (zs.map (Value.int .i32)):=by
    have:=((Uh HOK).below b1).row
    simpa using this
   have hs1:=b1.size
   have HROW:=Hd hrow
   have HCELLS:=Hd hcells
   have HFZ:=Hd (Uh HOK).1
   have HFF:=Hd ok1.1
   have HB1:=Hd (bthen (Uh HB) b1)
   go_wp2_with (at_builtin; refine wpList_append_own _ rfl (.tmp 15) (.tmp 21) 23 rfl w.heap.size 21 i0 (.int .i32 0) 1 4 Tryz.underlying23 hi hz0 hz1 hz2 rfl (by decide) _ _ _ rfl (Uh HROW) ⟨fb,fo,none⟩ fs.length fc (fs.map (Value.int .i32)) rfl (by simp) (Uh HCELLS) (fun u hu=>by obtain ⟨z,_,rfl⟩:=List.mem_map.1 hu; rfl) (by unfold maxLen; omega) (by omega) (by omega) ?_)
   intro v2 w2 hrow2 hg2 _
   have hok2:Ok .i32 21 w2 w.heap.size v2 (zs++fs):=by
    refine Ok.of (n:=zs.length+fs.length) (us:=zs.map (Value.int .i32)++fs.map (Value.int .i32)) (fun z hz=>?_) (by simp; omega) hrow2 (by simp) (by simp)
    rcases List.mem_append.1 hz with hz | hz
    ·exact (Uh HFZ) z hz
    ·exact (Uh HFF) z hz
   have hb2:Below w.heap.size w w2:=(Uh HB1).grown hg2 (by omega) (fun j hj=>((Uh HROW).lt j hj).1)
   have HO2:=Hd hok2
   have HB2:=Hd hb2
   go_wp2
   go_roundw
   case rel=>exact ⟨k+1,by go_num,by omega,by rw [Uh HNX]; exact Uh HO2,Uh HB2⟩
   case measure=>simp [intOf]; omega
  ·obtain rfl:k=xs.length:=by omega
   rw [Uh HEND] at hok
   have HFN:Hid (RunesNew w (Cn.openAll rs xs) (.returned u5) wr):=⟨u5,rfl,hok,hb⟩
   obtain ⟨yo,yl,yc,hye⟩:∃ yo yl yc,u5=.slice yo yl yc:=by
    obtain ⟨yo,yc,e,_,_⟩:=hok.sk.shape
    exact ⟨yo,_,yc,e⟩
   subst hye
   go_wp2
   go_ret
   exact Uh HFN
def refN (ns:List Nat):Int:=if ns.any (fun n=>decide (65536<n)) then 2 else 0
theorem refN_step {ns:List Nat} {k} (hk:k<ns.length):refN (ns.drop k)=if 65536<ns.getD k 0 then 2 else refN (ns.drop (k+1)):=by
 rw [List.drop_eq_getElem_cons hk]
 unfold refN
 rw [List.any_cons]
 have:ns.getD k 0=ns[k]:=by simp [List.getD,hk]
 rw [this]
 by_cases h:65536<ns[k]
 ·grind
 ·grind
theorem refused_nil v w:Calls Tryz.prog 40 #[.pointer none,v] w fun e w'=>e=.returned (.int .i64 1)∧w'=w:=by
 go_enter Tryz.func40,Tryz.ntmps40
 go_wp2
 go_ret
 exact ⟨rfl,rfl⟩
set_option maxRecDepth 8000 in
set_option maxHeartbeats 2000000 in
theorem refused_any12 p g n ns w (hn:ns.length=n) (hl:n≤10) (hc:∀ i,i<n→∃ ao cap,w.cell? ⟨g,i,none⟩=some (.slice ao (ns.getD i 0) cap)∧cap≤9223372036854775807∧ns.getD i 0≤cap):Calls Tryz.prog 40 #[.pointer (some ⟨p,0,none⟩),.slice (some ⟨g,0,none⟩) n n] w fun e w'=>e=.returned (.int .i64 (refN ns))∧w'=w:=by
 have HC:=Hd hc
 have HST:Hid (∀ k,k<n→refN (ns.drop k)=if 65536<ns.getD k 0 then 2 else refN (ns.drop (k+1))):=fun k hk=>refN_step (by omega)
 obtain ⟨res,hres⟩:∃ r,refN ns=r:=⟨_,rfl⟩
 rw [hres]
 have HRES:Hid (refN (ns.drop 0)=res):=by grind
 have HEND:Hid (refN (ns.drop n)=0):=by show _=_; rw [← hn,List.drop_length]; rfl
 go_enter Tryz.func40,Tryz.ntmps40
 go_wp2
 go_loopw [6,11] (fun _ ii wr=>wr=w∧∃ k:Nat,ii=.int .i64 k∧k≤n∧refN (ns.drop k)=res) (fun _ ii _=>n - (intOf ii).toNat)
 case atStart=>exact ⟨rfl,0,rfl,by omega,Uh HRES⟩
 case round =>
  obtain ⟨rfl,k,rfl,hk,hs⟩:=hrel
  by_cases hlt:k<n
  ·have hst:=(Uh HST) k hlt
   rw [hs] at hst
   obtain ⟨ao,cap,hcell,hc1,hc2⟩:=(Uh HC) k hlt
   have HSS:=Hd hst
   generalize ns.getD k 0=m at *
   by_cases hm:65536<m
   ·have hs:=Uh HSS
    rw [if_pos hm] at hs
    subst hs
    go_wp2
    go_ret
    exact ⟨rfl,rfl⟩
   ·have hs:=Uh HSS
    rw [if_neg hm] at hs
    have HS2:=Hd hs
    go_wp2
    go_roundw
    case rel=>exact ⟨by first | rfl | trivial,k+1,by go_num,by omega,(Uh HS2).symm⟩
    case measure=>simp [intOf]; omega
  ·obtain rfl:k=n:=by omega
   rw [Uh HEND] at hs
   subst hs
   go_wp2
   go_ret
   exact ⟨rfl,rfl⟩
def SeqE (w:World) (zs:List Int) (er:Int) (e:Ending) (w':World):Prop:=∃ v,e=.returned (.tuple #[v,.int .i64 er])∧Ok .i32 21 w' w.heap.size v zs∧Below w.heap.size w w'
theorem one_cell (w:World) ao n cap ty:(w.alloc (.cells #[.slice ao n cap] ty)).cell? ⟨w.heap.size,0,none⟩=some (.slice ao n cap):=by simp_all
end Go.Proofs.YtihhhjodonkkcaaGreatDoor
