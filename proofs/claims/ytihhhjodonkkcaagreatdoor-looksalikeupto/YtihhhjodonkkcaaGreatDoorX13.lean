/- Rn7 Ro7 Rp7 Rq7 Rr7 -/
import Derived.Test.YtihhhjodonkkcaaGreatDoorX2
import Derived.Deep.AppendLies
import Derived.Laws.AppendOwnNone
namespace Go.Proofs.YtihhhjodonkkcaaGreatDoor
open Go.RowKit
theorem grow_of {w w1} (h:Below w.heap.size w w1) r:w.grownBy w1 r:=⟨h.os,h.tape,h.output,h.size,fun k hk _=>h.block k hk⟩
theorem grow_trans {w w1 w2:World} {r r'} (h:w.grownBy w1 r) (k:w1.grownBy w2 r') (hr:r'=r∨∃ g,r'=some g∧w.heap.size≤g):w.grownBy w2 r:=by
 refine ⟨k.os.trans h.os,k.tape.trans h.tape,k.output.trans h.output,Nat.le_trans h.size k.size,fun x hx hne=>?_⟩
 rw [k.block x (Nat.lt_of_lt_of_le hx h.size) ?_,h.block x hx hne]
 rcases hr with rfl | ⟨g,rfl,hg⟩
 ·exact hne
 ·grind
theorem cell_one_new (w:World) e v:∀ j u,[v][j]?=some u→(w.alloc (.cells #[v] e)).cell? ((⟨w.heap.size,0,none⟩:Addr).add j)=some u:=by
 intro j u hj
 match j,hj with
 | 0,hj=>simp at hj; subst hj; simp [World.cell?,World.alloc,Addr.add,-World.alloc_eq]
 | j+1,hj=>simp at hj
theorem wpList_append_nil {w ops rest o} {a Q} (hgd:o.guard=none) (s x:Operand)
  (ho:o.op=.call { callee:=.builtin .append,args:=#[s,x],argTypes:=#[23,23] }) v zs (hs:a.eval s=.slice none 0 0) (hx:a.eval x=v) (hv:Sk .i32 w v zs) (hl:zs.length≤1000)
  (h:∀ v' w',Ok .i32 21 w' w.heap.size v' zs→Below w.heap.size w w'→wpList Tryz.prog ops Q rest (a.put o.dst v') w'):wpList Tryz.prog ops Q (o :: rest) a w:=by
 obtain ⟨i0,hi,hz0,hz1,hz2⟩:=info_parts Tryz.info21
 rcases hv.2.src with ⟨hn,rfl⟩ | ⟨ad,cap,rfl,hsrc⟩
 ·obtain rfl:zs=[]:=by simpa using hn
  exact wpList_append_own_none hgd s x 23 ho w.heap.size 21 i0 1 Tryz.underlying23 hi _ _ _ hs (World.ownsRow_nil _ _ _ _) hx (h _ _ (Ok.nil _ _ _ _) (Below.refl _ _))
 ·refine wpList_append_own _ hgd s x 23 ho w.heap.size 21 i0 (.int .i32 0) 1 4 Tryz.underlying23 hi hz0 hz1 hz2 rfl (by decide) _ _ _ hs (World.ownsRow_nil _ _ _ _) ad _ cap (zs.map (Value.int .i32)) hx (by simp) hsrc (ints_one .i32 zs) (by simp [maxLen]; omega) (by simp; omega) (Nat.le_refl _) ?_
  intro v' w' hrow hg _
  exact h v' w' (Ok.of hv.1 (by omega) hrow (by simp) (by simp)) (below_append0 (e:=21) (Nat.le_refl _) (World.ownsRow_nil _ _ _ _) (Below.refl _ _) hg)
def WalkB (w:World) (B:Nat) (vo:Value) (r:List Int × Int) (e:Ending) (w':World):Prop :=
 ∃ v,e=.returned (.tuple #[v,.int .i64 r.2])∧w.grownBy w' vo.ownBlock∧((r.2=0∧Ok .i32 21 w' B v r.1∧(v.ownBlock=vo.ownBlock∨∃ g,v.ownBlock=some g∧w.heap.size≤g))∨(r.2≠0∧v=.slice none 0 0))
def WIn (w:World) (B:Nat) (vout vx vd:Value) (xs down:List Int) (rs:List Rec) (f:Nat) (res:List Int × Int) (k:Nat) (vo:Value) (wr:World):Prop :=
 ∃ outk,Ok .i32 21 wr B vo outk∧outk.length≤32∧(xs.drop k).foldl (Cn.stepW rs f down) (outk,0)=res∧Ok .i32 21 wr w.heap.size vx xs∧Ok .i32 21 wr w.heap.size vd down ∧
  (∀ g,vo.ownBlock=some g→vx.ownBlock≠some g∧vd.ownBlock≠some g)∧w.grownBy wr vout.ownBlock∧(vo.ownBlock=vout.ownBlock∨∃ g,vo.ownBlock=some g∧w.heap.size≤g)
theorem WIn.next {w wr w' B} {vout vx vd vo v':Value} {xs down rs f res} {k outk} (hk:k<xs.length)
  (h2:outk.length≤32) (h3:(xs.drop k).foldl (Cn.stepW rs f down) (outk,0)=res) (hx:Ok .i32 21 wr w.heap.size vx xs) (hd:Ok .i32 21 wr w.heap.size vd down)
  (hne:∀ g,vo.ownBlock=some g→vx.ownBlock≠some g∧vd.ownBlock≠some g) (hg:w.grownBy wr vout.ownBlock) (hv:vo.ownBlock=vout.ownBlock∨∃ g,vo.ownBlock=some g∧w.heap.size≤g)
  (hg2:wr.grownBy w' vo.ownBlock) (hr0:(Cn.walk rs f down (xs.getD k 0) outk).2=0) (hok:Ok .i32 21 w' B v' (Cn.walk rs f down (xs.getD k 0) outk).1) (hv2:v'.ownBlock=vo.ownBlock∨∃ g,v'.ownBlock=some g∧wr.heap.size≤g) :
  WIn w B vout vx vd xs down rs f res (k+1) v' w':=by
 have hkeep:∀ g,g<wr.heap.size→vo.ownBlock≠some g→w'.heap[g]?=wr.heap[g]?:=fun g a b=>hg2.block g a (fun e=>b e.symm)
 refine ⟨(Cn.walk rs f down (xs.getD k 0) outk).1,hok,Cn.walk_len _ _ _ _ _ h2,?_,hx.keep (fun g h=>hkeep g (hx.2.2.lt g h).2 (fun e=>(hne g e).1 h)),hd.keep (fun g h=>hkeep g (hd.2.2.lt g h).2 (fun e=>(hne g e).2 h)),fun g h=>?_,grow_trans hg hg2 ?_,?_⟩
 ·rw [← h3,Cn.fold_step hk]
  congr 1
  exact Prod.ext rfl hr0.symm
 ·rcases hv2 with e | ⟨g',e,hg'⟩
  ·exact hne g (e ▸ h)
  ·rw [e] at h
   obtain rfl:=Option.some.inj h
   exact ⟨fun e'=>by have:=(hx.2.2.lt g' e').2; omega,fun e'=>by have:=(hd.2.2.lt g' e').2; omega⟩
 ·exact hv
 ·rcases hv2 with e | ⟨g',e,hg'⟩
  ·grind
  ·exact .inr ⟨g',e,Nat.le_trans hg.size hg'⟩
theorem WIn.start {w wr B vout vx vd xs down out} {rs f} (ho:Ok .i32 21 w B vout out) (hl:out.length≤32) (hx:Ok .i32 21 wr w.heap.size vx xs) (hd:Ok .i32 21 wr w.heap.size vd down) (hb:Below w.heap.size w wr) :
  WIn w B vout vx vd xs down rs f (xs.foldl (Cn.stepW rs f down) (out,0)) 0 vout wr:=by
 refine ⟨out,ho.below hb,hl,by rw [List.drop_zero],hx,hd,fun g h=>?_,grow_of hb _,.inl rfl⟩
 have hlt:=(ho.2.2.lt g h).2
 exact ⟨fun e=>by have:=(hx.2.2.lt g e).1; omega,fun e=>by have:=(hd.2.2.lt g e).1; omega⟩
set_option maxRecDepth 8000 in
set_option maxHeartbeats 8000000 in
theorem refWalk_any w0 vl rs (hR:∀ W,Below w0.heap.size w0 W→Rcs W vl rs):∀ (f:Nat) (way:List Int) (c:Int) (out:List Int) (w:World) (vway vout:Value),f+way.length=16→Rune c→Below w0.heap.size w0 w→Sk .i32 w vway way→Ok .i32 21 w w0.heap.size vout out→out.length≤32 →
  Calls Tryz.prog 108 #[vl,.int .i32 c,vway,vout] w (WalkB w w0.heap.size vout (Cn.walk rs f way c out)):=by
 intro f
 induction f with
 | zero =>
  intro way c out w vway vout hfw hc hbel hway hout hlen
  obtain ⟨i0,hi,hz0,hz1,hz2⟩:=info_parts Tryz.info21
  have hB:=hbel.size
  have K1:=Hd (refOpen_any vl rs c w (hR w hbel) hc)
  have hlr:=(hR w hbel).1
  obtain ⟨lo,lcap,rfl,_,_⟩:=(hR w hbel).shape
  obtain ⟨c0,c1⟩:=hc
  obtain ⟨wo,wcap,rfl,hw1,hw2⟩:=hway.shape
  by_cases hop:Cn.opn rs c=[]
  ·have hwk:=Cn.walk_leaf hop 0 way out
   rw [hop] at K1
   have HPOS:Hid (32≤out.length→Cn.walk rs 0 way c out=([],2)):=fun h=>by rw [hwk,if_pos h]
   have HNEG:Hid (¬ 32≤out.length→Cn.walk rs 0 way c out=(out++[c],0)):=fun h=>by rw [hwk,if_neg h]
   generalize Cn.walk rs 0 way c out=res at *
   clear hwk
   go_enter Tryz.func108,Tryz.ntmps108
   go_wp2_with fail
   refine (Uh K1).mono ?_
   rintro e w1 ⟨vx,rfl,okx,hb1⟩
   obtain ⟨xo,xcap,rfl,_,_⟩:=okx.sk.shape
   have hout1:=hout.below hb1
   have hrow1:=hout1.row
   have hlen0:([]:List Int).length=0:=rfl
   rw [hlen0]
   have hs1:=hb1.size
   clear K1 okx hway hlen0
   by_cases h32:32≤out.length
   ·obtain rfl:=(Uh HPOS) h32
    clear HPOS HNEG
    go_wp2_with (at_builtin; refine wpList_append_lies _ rfl (.tmp 21) (.tmp 23) 23 rfl w0.heap.size 21 i0 (.int .i32 0) 1 4 Tryz.underlying23 hi hz0 hz1 hz2 rfl (by decide) _ _ _ rfl (hrow1.alloc _) ⟨w1.heap.size,0,none⟩ 1 1 [.int .i32 c] rfl rfl (cell_one_new _ _ _) (int_one .i32 _) (by omega) (by unfold maxLen; omega) (by omega) (by simp; omega) (w1.heap.size+1) (by simp) ?_)
    all_goals try (go_ret2; exact ⟨_,rfl,grow_of hb1 _,.inr ⟨by decide,rfl⟩⟩)
    intro g cap9 w9 hrow9 hg9 hgg _
    have hgw:w.grownBy w9 vout.ownBlock:=grow_trans (grow_of (hb1.alloc hs1 _) _) hg9 (.inl rfl)
    have hok9:Ok .i32 21 w9 w0.heap.size (.slice (some ⟨g,0,none⟩) (out.length+1) cap9) (out++[c]):=Ok.of (fun z hz=>by rcases List.mem_append.1 hz with hz | hz; exact hout.1 z hz; (simp at hz; subst hz; simp [IntKind.min,IntKind.max,IntKind.signed,IntKind.bits]; omega)) (by simp; omega) hrow9 (by simp) (by simp)
    have hnew:(Value.slice (some ⟨g,0,none⟩) (out.length+1) cap9).ownBlock=vout.ownBlock∨∃ g',(Value.slice (some ⟨g,0,none⟩) (out.length+1) cap9).ownBlock=some g'∧w.heap.size≤g':=by
     rcases hgg with h | h
     ·exact .inl h.symm
     ·exact .inr ⟨g,rfl,by omega⟩
    have HF:WalkB w w0.heap.size vout ([],2) (.returned (.tuple #[.slice none 0 0,.int .i64 2])) w9:=⟨_,rfl,hgw,.inr ⟨by decide,rfl⟩⟩
    clear hrow9 hg9 hgg hok9 hnew hgw hrow1 hout1 hout hb1 hbel
    go_wp2
    go_ret2
    exact HF
   ·obtain rfl:=(Uh HNEG) h32
    clear HPOS HNEG
    go_wp2_with (at_builtin; refine wpList_append_lies _ rfl (.tmp 21) (.tmp 23) 23 rfl w0.heap.size 21 i0 (.int .i32 0) 1 4 Tryz.underlying23 hi hz0 hz1 hz2 rfl (by decide) _ _ _ rfl (hrow1.alloc _) ⟨w1.heap.size,0,none⟩ 1 1 [.int .i32 c] rfl rfl (cell_one_new _ _ _) (int_one .i32 _) (by omega) (by unfold maxLen; omega) (by omega) (by simp; omega) (w1.heap.size+1) (by simp) ?_)
    intro g cap9 w9 hrow9 hg9 hgg _
    have hgw:w.grownBy w9 vout.ownBlock:=grow_trans (grow_of (hb1.alloc hs1 _) _) hg9 (.inl rfl)
    have hok9:Ok .i32 21 w9 w0.heap.size (.slice (some ⟨g,0,none⟩) (out.length+1) cap9) (out++[c]):=Ok.of (fun z hz=>by rcases List.mem_append.1 hz with hz | hz; exact hout.1 z hz; (simp at hz; subst hz; simp [IntKind.min,IntKind.max,IntKind.signed,IntKind.bits]; omega)) (by simp; omega) hrow9 (by simp) (by simp)
    have hnew:(Value.slice (some ⟨g,0,none⟩) (out.length+1) cap9).ownBlock=vout.ownBlock∨∃ g',(Value.slice (some ⟨g,0,none⟩) (out.length+1) cap9).ownBlock=some g'∧w.heap.size≤g':=by
     rcases hgg with h | h
     ·exact .inl h.symm
     ·exact .inr ⟨g,rfl,by omega⟩
    have HF:WalkB w w0.heap.size vout (out++[c],0) (.returned (.tuple #[.slice (some ⟨g,0,none⟩) (out.length+1) cap9,.int .i64 0])) w9:=⟨_,rfl,hgw,.inl ⟨rfl,hok9,hnew⟩⟩
    clear hrow9 hg9 hgg hok9 hnew hgw hrow1 hout1 hout hb1 hbel
    go_wp2
    go_ret2
    exact HF
  ·have hxl:0<(Cn.opn rs c).length:=List.length_pos_iff.2 hop
   have HLOOP:Hid (c∈way→Cn.walk rs 0 way c out=([],72)):=fun h=>Cn.walk_loop hop 0 h out
   have HDEEP:Hid (¬ c∈way→Cn.walk rs 0 way c out=([],73)):=fun h=>Cn.walk_deep hop h out
   generalize Cn.walk rs 0 way c out=res at *
   clear hop
   generalize Cn.opn rs c=xs at *
   go_enter Tryz.func108,Tryz.ntmps108
   go_wp2_with fail
   refine (Uh K1).mono ?_
   rintro e w1 ⟨vx,rfl,okx,hb1⟩
   obtain ⟨xo,xcap,rfl,hx1,hx2⟩:=okx.sk.shape
   have hs1:=hb1.size
   have qx:((xs.length:Int)==0)=false:=beq_eq_false_iff_ne.2 (by omega)
   have hway1:=hway.below hb1
   have HWC:Hid (∀ j,j<way.length→∃ b off,wo=some ⟨b,off,none⟩∧w1.cell? ⟨b,off+j,none⟩=some (.int .i32 (way.getD j 0))):=by
    intro j hj
    obtain ⟨b,off,cap',he,_,_,hcc⟩:=hway1.place (by omega)
    obtain ⟨rfl,rfl⟩:wo=some ⟨b,off,none⟩∧wcap=cap':=by simpa using he
    exact ⟨b,off,rfl,hcc j hj⟩
   have OKX:=Hd okx
   have HW1:=Hd hway1
   have HB1:=Hd hb1
   have HOUT:=Hd hout
   clear K1 okx hway hway1 hb1 hout
   go_wp2
   go_loop [11] (fun iv=>∃ k:Nat,iv=.int .i64 k∧k≤way.length∧∀ j,j<k→way.getD j 0≠c) (fun iv=>way.length - (intOf iv).toNat)
   case atStart=>exact ⟨0,rfl,by omega,fun j hj=>absurd hj (Nat.not_lt_zero _)⟩
   case round =>
    obtain ⟨k,rfl,hk,hno⟩:=hrel
    have HNO:=Hd hno
    clear hno
    by_cases hlt:k<way.length
    ·obtain ⟨b,off,rfl,hcell⟩:=(Uh HWC) k hlt
     by_cases heq:way.getD k 0=c
     ·have hmem:c∈way:=by rw [← heq]; simp [List.getD,hlt]
      obtain rfl:=(Uh HLOOP) hmem
      rw [heq] at hcell
      have qc:(c==c)=true:=beq_self_eq_true _
      have HF:WalkB w w0.heap.size vout ([],72) (.returned (.tuple #[.slice none 0 0,.int .i64 72])) w1:=⟨_,rfl,grow_of (Uh HB1) _,.inr ⟨by decide,rfl⟩⟩
      clear HWC HLOOP HNO heq hmem OKX HW1 HB1 HOUT
      clear HDEEP
      go_wp2
      go_ret2
      exact HF
     ·have qc:(way.getD k 0==c)=false:=beq_eq_false_iff_ne.2 heq
      have HN2:Hid (∀ j,j<k+1→way.getD j 0≠c):=fun j hj=>by
       rcases Nat.lt_or_ge j k with h | h
       ·exact (Uh HNO) j h
       ·obtain rfl:j=k:=by omega
        exact heq
      clear HWC HLOOP HNO heq OKX HW1 HB1 HOUT
      clear HDEEP
      generalize way.getD k 0=z at *
      go_wp2
      go_round
      case rel=>exact ⟨k+1,by go_num,by omega,Uh HN2⟩
      case measure=>simp [intOf]; omega
    ·obtain rfl:k=way.length:=by omega
     have hnm:¬ c∈way:=fun h=>by
      obtain ⟨j,hj,he⟩:=List.getElem_of_mem h
      exact (Uh HNO) j hj (by simp [List.getD,hj,he])
     obtain rfl:=(Uh HDEEP) hnm
     have h16:way.length=16:=by omega
     have q16:((way.length:Int)==16)=true:=by rw [h16]; rfl
     have HF:WalkB w w0.heap.size vout ([],73) (.returned (.tuple #[.slice none 0 0,.int .i64 73])) w1:=⟨_,rfl,grow_of (Uh HB1) _,.inr ⟨by decide,rfl⟩⟩
     clear HWC HLOOP HNO HDEEP hnm OKX HW1 HB1 HOUT h16
     go_wp2
     go_ret2
     exact HF
 | succ f ih =>
  intro way c out w vway vout hfw hc hbel hway hout hlen
  obtain ⟨i0,hi,hz0,hz1,hz2⟩:=info_parts Tryz.info21
  have hB:=hbel.size
  have K1:=Hd (refOpen_any vl rs c w (hR w hbel) hc)
  have hlr:=(hR w hbel).1
  obtain ⟨lo,lcap,rfl,_,_⟩:=(hR w hbel).shape
  have IH:=Hd ih
  obtain ⟨c0,c1⟩:=hc
  obtain ⟨wo,wcap,rfl,hw1,hw2⟩:=hway.shape
  by_cases hop:Cn.opn rs c=[]
  ·have hwk:=Cn.walk_leaf hop (f+1) way out
   rw [hop] at K1
   have HPOS:Hid (32≤out.length→Cn.walk rs (f+1) way c out=([],2)):=fun h=>by rw [hwk,if_pos h]
   have HNEG:Hid (¬ 32≤out.length→Cn.walk rs (f+1) way c out=(out++[c],0)):=fun h=>by rw [hwk,if_neg h]
   generalize Cn.walk rs (f+1) way c out=res at *
   clear hwk
   clear IH ih
   go_enter Tryz.func108,Tryz.ntmps108
   go_wp2_with fail
   refine (Uh K1).mono ?_
   rintro e w1 ⟨vx,rfl,okx,hb1⟩
   obtain ⟨xo,xcap,rfl,_,_⟩:=okx.sk.shape
   have hout1:=hout.below hb1
   have hrow1:=hout1.row
   have hlen0:([]:List Int).length=0:=rfl
   rw [hlen0]
   have hs1:=hb1.size
   clear K1 okx hway hlen0
   by_cases h32:32≤out.length
   ·obtain rfl:=(Uh HPOS) h32
    clear HPOS HNEG
    go_wp2_with (at_builtin; refine wpList_append_lies _ rfl (.tmp 21) (.tmp 23) 23 rfl w0.heap.size 21 i0 (.int .i32 0) 1 4 Tryz.underlying23 hi hz0 hz1 hz2 rfl (by decide) _ _ _ rfl (hrow1.alloc _) ⟨w1.heap.size,0,none⟩ 1 1 [.int .i32 c] rfl rfl (cell_one_new _ _ _) (int_one .i32 _) (by omega) (by unfold maxLen; omega) (by omega) (by simp; omega) (w1.heap.size+1) (by simp) ?_)
    all_goals try (go_ret2; exact ⟨_,rfl,grow_of hb1 _,.inr ⟨by decide,rfl⟩⟩)
    intro g cap9 w9 hrow9 hg9 hgg _
    have hgw:w.grownBy w9 vout.ownBlock:=grow_trans (grow_of (hb1.alloc hs1 _) _) hg9 (.inl rfl)
    have hok9:Ok .i32 21 w9 w0.heap.size (.slice (some ⟨g,0,none⟩) (out.length+1) cap9) (out++[c]):=Ok.of (fun z hz=>by rcases List.mem_append.1 hz with hz | hz; exact hout.1 z hz; (simp at hz; subst hz; simp [IntKind.min,IntKind.max,IntKind.signed,IntKind.bits]; omega)) (by simp; omega) hrow9 (by simp) (by simp)
    have hnew:(Value.slice (some ⟨g,0,none⟩) (out.length+1) cap9).ownBlock=vout.ownBlock∨∃ g',(Value.slice (some ⟨g,0,none⟩) (out.length+1) cap9).ownBlock=some g'∧w.heap.size≤g':=by
     rcases hgg with h | h
     ·exact .inl h.symm
     ·exact .inr ⟨g,rfl,by omega⟩
    have HF:WalkB w w0.heap.size vout ([],2) (.returned (.tuple #[.slice none 0 0,.int .i64 2])) w9:=⟨_,rfl,hgw,.inr ⟨by decide,rfl⟩⟩
    clear hrow9 hg9 hgg hok9 hnew hgw hrow1 hout1 hout hb1 hbel
    go_wp2
    go_ret2
    exact HF
   ·obtain rfl:=(Uh HNEG) h32
    clear HPOS HNEG
    go_wp2_with (at_builtin; refine wpList_append_lies _ rfl (.tmp 21) (.tmp 23) 23 rfl w0.heap.size 21 i0 (.int .i32 0) 1 4 Tryz.underlying23 hi hz0 hz1 hz2 rfl (by decide) _ _ _ rfl (hrow1.alloc _) ⟨w1.heap.size,0,none⟩ 1 1 [.int .i32 c] rfl rfl (cell_one_new _ _ _) (int_one .i32 _) (by omega) (by unfold maxLen; omega) (by omega) (by simp; omega) (w1.heap.size+1) (by simp) ?_)
    intro g cap9 w9 hrow9 hg9 hgg _
    have hgw:w.grownBy w9 vout.ownBlock:=grow_trans (grow_of (hb1.alloc hs1 _) _) hg9 (.inl rfl)
    have hok9:Ok .i32 21 w9 w0.heap.size (.slice (some ⟨g,0,none⟩) (out.length+1) cap9) (out++[c]):=Ok.of (fun z hz=>by rcases List.mem_append.1 hz with hz | hz; exact hout.1 z hz; (simp at hz; subst hz; simp [IntKind.min,IntKind.max,IntKind.signed,IntKind.bits]; omega)) (by simp; omega) hrow9 (by simp) (by simp)
    have hnew:(Value.slice (some ⟨g,0,none⟩) (out.length+1) cap9).ownBlock=vout.ownBlock∨∃ g',(Value.slice (some ⟨g,0,none⟩) (out.length+1) cap9).ownBlock=some g'∧w.heap.size≤g':=by
     rcases hgg with h | h
     ·exact .inl h.symm
     ·exact .inr ⟨g,rfl,by omega⟩
    have HF:WalkB w w0.heap.size vout (out++[c],0) (.returned (.tuple #[.slice (some ⟨g,0,none⟩) (out.length+1) cap9,.int .i64 0])) w9:=⟨_,rfl,hgw,.inl ⟨rfl,hok9,hnew⟩⟩
    clear hrow9 hg9 hgg hok9 hnew hgw hrow1 hout1 hout hb1 hbel
    go_wp2
    go_ret2
    exact HF
  ·have hxl:0<(Cn.opn rs c).length:=List.length_pos_iff.2 hop
   have HLOOP:Hid (c∈way→Cn.walk rs (f+1) way c out=([],72)):=fun h=>Cn.walk_loop hop (f+1) h out
   have HGO:Hid (¬ c∈way→Cn.walk rs (f+1) way c out=(Cn.opn rs c).foldl (Cn.stepW rs f (way++[c])) (out,0)):=fun h=>Cn.walk_go hop f h out
   generalize Cn.walk rs (f+1) way c out=res at *
   clear hop
   clear ih
   generalize Cn.opn rs c=xs at *
   go_enter Tryz.func108,Tryz.ntmps108
   go_wp2_with fail
   refine (Uh K1).mono ?_
   rintro e w1 ⟨vx,rfl,okx,hb1⟩
   obtain ⟨xo,xcap,rfl,hx1,hx2⟩:=okx.sk.shape
   have hs1:=hb1.size
   have qx:((xs.length:Int)==0)=false:=beq_eq_false_iff_ne.2 (by omega)
   have hway1:=hway.below hb1
   have HWC:Hid (∀ j,j<way.length→∃ b off,wo=some ⟨b,off,none⟩∧w1.cell? ⟨b,off+j,none⟩=some (.int .i32 (way.getD j 0))):=by
    intro j hj
    obtain ⟨b,off,cap',he,_,_,hcc⟩:=hway1.place (by omega)
    obtain ⟨rfl,rfl⟩:wo=some ⟨b,off,none⟩∧wcap=cap':=by simpa using he
    exact ⟨b,off,rfl,hcc j hj⟩
   have OKX:=Hd okx
   have HW1:=Hd hway1
   have HB1:=Hd hb1
   have HOUT:=Hd hout
   clear K1 okx hway hway1 hb1 hout
   go_wp2
   go_loop [11] (fun iv=>∃ k:Nat,iv=.int .i64 k∧k≤way.length∧∀ j,j<k→way.getD j 0≠c) (fun iv=>way.length - (intOf iv).toNat)
   case atStart=>exact ⟨0,rfl,by omega,fun j hj=>absurd hj (Nat.not_lt_zero _)⟩
   case round =>
    obtain ⟨k,rfl,hk,hno⟩:=hrel
    have HNO:=Hd hno
    clear hno
    by_cases hlt:k<way.length
    ·obtain ⟨b,off,rfl,hcell⟩:=(Uh HWC) k hlt
     by_cases heq:way.getD k 0=c
     ·have hmem:c∈way:=by rw [← heq]; simp [List.getD,hlt]
      obtain rfl:=(Uh HLOOP) hmem
      rw [heq] at hcell
      have qc:(c==c)=true:=beq_self_eq_true _
      have HF:WalkB w w0.heap.size vout ([],72) (.returned (.tuple #[.slice none 0 0,.int .i64 72])) w1:=⟨_,rfl,grow_of (Uh HB1) _,.inr ⟨by decide,rfl⟩⟩
      clear HWC HLOOP HNO heq hmem OKX HW1 HB1 HOUT
      clear HGO IH
      go_wp2
      go_ret2
      exact HF
     ·have qc:(way.getD k 0==c)=false:=beq_eq_false_iff_ne.2 heq
      have HN2:Hid (∀ j,j<k+1→way.getD j 0≠c):=fun j hj=>by
       rcases Nat.lt_or_ge j k with h | h
       ·exact (Uh HNO) j h
       ·obtain rfl:j=k:=by omega
        exact heq
      clear HWC HLOOP HNO heq OKX HW1 HB1 HOUT
      clear HGO IH
      generalize way.getD k 0=z at *
      go_wp2
      go_round
      case rel=>exact ⟨k+1,by go_num,by omega,Uh HN2⟩
      case measure=>simp [intOf]; omega
    ·obtain rfl:k=way.length:=by omega
     have hnm:¬ c∈way:=fun h=>by
      obtain ⟨j,hj,he⟩:=List.getElem_of_mem h
      exact (Uh HNO) j hj (by simp [List.getD,hj,he])
     obtain rfl:=(Uh HGO) hnm
     have q16:((way.length:Int)==16)=false:=beq_eq_false_iff_ne.2 (by omega)
     clear HLOOP HGO HNO hnm HWC
     have HQ1:=(Uh HW1)
     have hfu:way.length≤1000:=by omega
     have h15:way.length≤15:=by omega
     go_wp2_with (at_builtin; refine wpList_append_nil rfl (.tmp 44) (.tmp 45) rfl _ way rfl rfl HQ1 hfu ?_)
     intro vd2 w2 okd2 hb2
     have hrow2:=okd2.row
     have hs2:=hb2.size
     clear HQ1 HW1
     go_wp2_with (at_builtin; refine wpList_append_lies _ rfl (.tmp 47) (.tmp 49) 23 rfl w1.heap.size 21 i0 (.int .i32 0) 1 4 Tryz.underlying23 hi hz0 hz1 hz2 rfl (by decide) _ _ _ rfl (hrow2.alloc _) ⟨w2.heap.size,0,none⟩ 1 1 [.int .i32 c] rfl rfl (cell_one_new _ _ _) (int_one .i32 _) (by omega) (by unfold maxLen; omega) (by omega) (by simp; omega) (w2.heap.size+1) (by simp) ?_)
     intro g cap3 w3 hrow3 hg3 hgg hglt
     have hfit:Fit .i32 (way++[c]):=Fit.snoc okd2.1 (i32_fit ⟨c0,c1⟩)
     have okd:Ok .i32 21 w3 w1.heap.size (.slice (some ⟨g,0,none⟩) (way.length+1) cap3) (way++[c]):=Ok.of hfit (by simp; omega) hrow3 (by simp) (by simp)
     have hb3:Below w1.heap.size w1 w3:=below_append hs2 hrow2 hb2 hg3
     have HW:=Hd (WIn.start (rs:=rs) (f:=f) (Uh HOUT) hlen ((Uh OKX).below hb3) (okd.lower hs1) (bthen (Uh HB1) hb3))
     have hdl:f+(way++[c]).length=16:=by simp; omega
     have hxf:Hid (∀ k,k<xs.length→Rune (xs.getD k 0)):=fun k hk=>rune_of (Uh OKX).sk hk
     have hbw:Hid (∀ wr,w.grownBy wr vout.ownBlock→Below w0.heap.size w0 wr):=fun wr hg=>hbel.grown hg hB (fun k hk=>((Uh HOUT).2.2.lt k hk).1)
     clear okd2 hb2 hrow2 hrow3 hg3 hgg hglt hfit okd hb3 OKX HB1 hbel
     have HLEN:Hid (way.length+1=(way++[c]).length):=by show way.length+1=_; simp
     generalize xs.foldl (Cn.stepW rs f (way++[c])) (out,0)=res at *
     generalize way++[c]=down at *
     go_wp2
     go_loopw [3,13,14] (fun vo iv _ wr=>∃ k:Nat,iv=.int .i64 k∧k≤xs.length∧WIn w w0.heap.size vout (.slice xo xs.length xcap) (.slice (some ⟨g,0,none⟩) (way.length+1) cap3) xs down rs f res k vo wr) (fun _ iv _ _=>xs.length - (intOf iv).toNat)
     case atStart=>exact ⟨0,rfl,by omega,Uh HW⟩
     case round =>
      obtain ⟨k2,rfl,hk2,outk,ok0,hol,hfold,okx2,okd2,hne,hgr,hob⟩:=hrel
      clear HW
      by_cases hlt2:k2<xs.length
      ·obtain ⟨b,off,cap',he,_,_,hcc⟩:=okx2.sk.place (by omega)
       obtain ⟨rfl,rfl⟩:xo=some ⟨b,off,none⟩∧xcap=cap':=by simpa using he
       have hcell:=hcc k2 hlt2
       have KC:=Hd ((Uh IH) down (xs.getD k2 0) outk wr _ _ hdl ((Uh hxf) k2 hlt2) ((Uh hbw) wr hgr) okd2.sk ok0 hol)
       have HNEXT:Hid (∀ w' v',wr.grownBy w' u3.ownBlock→(Cn.walk rs f down (xs.getD k2 0) outk).2=0→Ok .i32 21 w' w0.heap.size v' (Cn.walk rs f down (xs.getD k2 0) outk).1→(v'.ownBlock=u3.ownBlock∨∃ g,v'.ownBlock=some g∧wr.heap.size≤g)→WIn w w0.heap.size vout (.slice (some ⟨b,off,none⟩) xs.length xcap) (.slice (some ⟨g,0,none⟩) (way.length+1) cap3) xs down rs f res (k2+1) v' w'):=fun w' v' a b c d=>WIn.next hlt2 hol hfold okx2 okd2 hne hgr hob a b c d
       have HERR:Hid (∀ w',wr.grownBy w' u3.ownBlock→(Cn.walk rs f down (xs.getD k2 0) outk).2≠0→WalkB w w0.heap.size vout res (.returned (.tuple #[.slice none 0 0,.int .i64 (Cn.walk rs f down (xs.getD k2 0) outk).2])) w'):=fun w' hg hn=>by
        rw [Cn.fold_step hlt2,Cn.fold_stuck _ _ _ _ _ hn] at hfold
        rw [← hfold]
        exact ⟨_,rfl,grow_trans hgr hg hob,.inr ⟨hn,rfl⟩⟩
       clear hfold okx2 okd2 hne hgr hob ok0 hol hcc he IH hxf hbw HLEN HOUT hdl
       generalize Cn.walk rs f down (xs.getD k2 0) outk=q at *
       generalize xs.getD k2 0=z at *
       obtain ⟨q1,q2⟩:=q
       go_wp2_with fail
       refine (Uh KC).mono ?_
       rintro e w5 ⟨v5,rfl,hg5,h5⟩
       clear KC
       rcases h5 with ⟨he0,hok5,hob5⟩ | ⟨hne5,rfl⟩
       ·have HN:=Hd ((Uh HNEXT) w5 v5 hg5 he0 hok5 hob5)
        clear HNEXT HERR hg5 hok5 hob5
        obtain rfl:q2=0:=he0
        go_wp2
        go_round
        case rel=>exact ⟨k2+1,by go_num,by omega,Uh HN⟩
        case measure=>simp [intOf]; omega
       ·have HF:=Hd ((Uh HERR) w5 hg5 hne5)
        have hq:(q2==0)=false:=beq_eq_false_iff_ne.2 hne5
        clear HNEXT HERR hg5 hne5
        go_wp2
        go_ret2
        exact Uh HF
      ·obtain rfl:k2=xs.length:=by omega
       rw [List.drop_length,List.foldl_nil] at hfold
       have HF:Hid (WalkB w w0.heap.size vout res (.returned (.tuple #[u3,.int .i64 0])) wr):=by rw [← hfold]; exact ⟨_,rfl,hgr,.inl ⟨rfl,ok0,hob⟩⟩
       clear hfold okx2 okd2 hne hgr hob ok0 hol IH hxf hbw HLEN HOUT hdl
       go_wp2
       go_ret2
       exact Uh HF
set_option maxRecDepth 8000 in
set_option maxHeartbeats 1000000 in
theorem refFull_any:RFullC:=by
 intro v rs c w hv hc
 have KC:=Hd (refWalk_any w v rs (fun W h=>hv.below h) 16 [] c [] w (.slice none 0 0) (.slice none 0 0) rfl hc (Below.refl _ _) (Sk.nil _ _) (Ok.nil _ _ _ _) (by simp))
 have HE:=Hd (Cn.walk_err rs 16 [] c [])
 have HB:Hid (∀ w',w.grownBy w' (Value.slice none 0 0).ownBlock→Below w.heap.size w w'):=fun w' h=>(Below.refl _ _).grown h (Nat.le_refl _) (fun k e=>by cases e)
 rw [show Cn.full rs c=Cn.walk rs 16 [] c [] from rfl]
 generalize Cn.walk rs 16 [] c []=q at *
 obtain ⟨q1,q2⟩:=q
 obtain ⟨vo,vcap,rfl,_,_⟩:=hv.shape
 go_enter Tryz.func71,Tryz.ntmps71
 go_wp2_with fail
 refine (Uh KC).mono ?_
 rintro e w5 ⟨v5,rfl,hg5,h5⟩
 have HF:Hid (FullB w (q1,q2) (.returned (.tuple #[v5,.int .i64 q2])) w5):=by
  rcases h5 with ⟨_,hok,_⟩ | ⟨hn,rfl⟩
  ·exact ⟨_,rfl,hok,(Uh HB) w5 hg5⟩
  ·obtain rfl:q1=[]:=(Uh HE) hn
   exact ⟨_,rfl,Ok.nil _ _ _ _,(Uh HB) w5 hg5⟩
 go_wp2
 go_ret2
 exact Uh HF
theorem refJl_any c w (h:Rune c):Calls Tryz.prog 67 #[.int .i32 c] w fun e w'=>e=.returned (.bool (Cn.jl c))∧w'=w:=by
 obtain ⟨h1,h2⟩:=h
 unfold Cn.jl
 by_cases a1:4352≤c
 ·by_cases a2:c≤4370
  ·rw [decide_eq_true ⟨a1,a2⟩]
   go_enter Tryz.func67,Tryz.ntmps67
   go_wp2
   go_ret
   exact ⟨rfl,rfl⟩
  ·rw [decide_eq_false (fun h=>a2 h.2)]
   go_enter Tryz.func67,Tryz.ntmps67
   go_wp2
   go_ret
   exact ⟨rfl,rfl⟩
 ·rw [decide_eq_false (fun h=>a1 h.1)]
  go_enter Tryz.func67,Tryz.ntmps67
  go_wp2
  go_ret
  exact ⟨rfl,rfl⟩
theorem refJv_any c w (h:Rune c):Calls Tryz.prog 68 #[.int .i32 c] w fun e w'=>e=.returned (.bool (Cn.jv c))∧w'=w:=by
 obtain ⟨h1,h2⟩:=h
 unfold Cn.jv
 by_cases a1:4449≤c
 ·by_cases a2:c≤4469
  ·rw [decide_eq_true ⟨a1,a2⟩]
   go_enter Tryz.func68,Tryz.ntmps68
   go_wp2
   go_ret
   exact ⟨rfl,rfl⟩
  ·rw [decide_eq_false (fun h=>a2 h.2)]
   go_enter Tryz.func68,Tryz.ntmps68
   go_wp2
   go_ret
   exact ⟨rfl,rfl⟩
 ·rw [decide_eq_false (fun h=>a1 h.1)]
  go_enter Tryz.func68,Tryz.ntmps68
  go_wp2
  go_ret
  exact ⟨rfl,rfl⟩
theorem refJt_any c w (h:Rune c):Calls Tryz.prog 70 #[.int .i32 c] w fun e w'=>e=.returned (.bool (Cn.jt c))∧w'=w:=by
 obtain ⟨h1,h2⟩:=h
 unfold Cn.jt
 by_cases a1:4520≤c
 ·by_cases a2:c≤4546
  ·rw [decide_eq_true ⟨a1,a2⟩]
   go_enter Tryz.func70,Tryz.ntmps70
   go_wp2
   go_ret
   exact ⟨rfl,rfl⟩
  ·rw [decide_eq_false (fun h=>a2 h.2)]
   go_enter Tryz.func70,Tryz.ntmps70
   go_wp2
   go_ret
   exact ⟨rfl,rfl⟩
 ·rw [decide_eq_false (fun h=>a1 h.1)]
  go_enter Tryz.func70,Tryz.ntmps70
  go_wp2
  go_ret
  exact ⟨rfl,rfl⟩
theorem refCovers_any r vt lo hi w (hf:RecFit r) (hlo:I64 lo) (hhi:I64 hi):Calls Tryz.prog 66 #[recV r vt,.int .i64 lo,.int .i64 hi] w (BoolB w (Cn.covers r lo hi)):=by
 have hb:∀ o,Below w.heap.size w (w.alloc o):=fun o=>(Below.refl _ _).alloc (Nat.le_refl _) o
 have HB:=Hd hb
 obtain ⟨l0,l1⟩:=hlo
 obtain ⟨g0,g1⟩:=hhi
 obtain ⟨e0,e1⟩:=hf.lo
 obtain ⟨f0,f1⟩:=hf.hi
 unfold Cn.covers recV
 by_cases a1:r.lo≤hi
 ·by_cases a2:lo≤r.hi
  ·rw [decide_eq_true ⟨a1,a2⟩]
   go_enter Tryz.func66,Tryz.ntmps66
   go_wp2
   go_ret
   exact ⟨rfl,(Uh HB) _⟩
  ·rw [decide_eq_false (fun h=>a2 h.2)]
   go_enter Tryz.func66,Tryz.ntmps66
   go_wp2
   go_ret
   exact ⟨rfl,(Uh HB) _⟩
 ·rw [decide_eq_false (fun h=>a1 h.1)]
  go_enter Tryz.func66,Tryz.ntmps66
  go_wp2
  go_ret
  exact ⟨rfl,(Uh HB) _⟩
theorem refPlain_any v rs c w (hv:Rcs w v rs) (hc:Rune c):Calls Tryz.prog 46 #[v,.int .i32 c] w (BoolB w (Cn.plain rs c)):=by
 have K:=Hd (refFind_any v rs 1 c w hv (by unfold I64; omega) hc)
 obtain ⟨c0,c1⟩:=hc
 rcases hit_at hv 1 c with ⟨h1,h2⟩ | ⟨k,b,off,cap,h1,hkl,h2,rfl,hl,hm,hr,hf⟩
 ·have hcl:Cn.plain rs c=false:=by unfold Cn.plain; rw [h2]
  rw [hcl]
  rw [h1] at K
  obtain ⟨ao,cap,rfl,_,_⟩:=hv.shape
  go_enter Tryz.func46,Tryz.ntmps46
  go_wp2_with fail
  refine (Uh K).mono ?_
  rintro e w1 ⟨rfl,hb⟩
  have HF:BoolB w false (.returned (.bool false)) w1:=⟨rfl,hb⟩
  go_wp2
  go_ret
  exact HF
 ·have hcl:Cn.plain rs c=decide ((rs.getD k Cn.none).kind=1):=by unfold Cn.plain; rw [h2]
  rw [hcl]
  rw [h1] at K
  have HR:=Hd hr
  have hlen:=hv.1
  generalize rs.getD k Cn.none=r at *
  by_cases hk1:r.kind=1
  ·rw [decide_eq_true hk1]
   go_enter Tryz.func46,Tryz.ntmps46
   go_wp2_with fail
   refine (Uh K).mono ?_
   rintro e w1 ⟨rfl,hb⟩
   have x0:=((Uh HR).below hb).kind
   rw [hk1] at x0
   have HF:BoolB w true (.returned (.bool true)) w1:=⟨rfl,hb⟩
   go_wp2
   go_ret
   exact HF
  ·rw [decide_eq_false hk1]
   go_enter Tryz.func46,Tryz.ntmps46
   go_wp2_with fail
   refine (Uh K).mono ?_
   rintro e w1 ⟨rfl,hb⟩
   have x0:=((Uh HR).below hb).kind
   have q1:(r.kind==1)=false:=beq_eq_false_iff_ne.2 hk1
   have HF:BoolB w false (.returned (.bool false)) w1:=⟨rfl,hb⟩
   go_wp2
   go_ret
   exact HF
def dips (l:List Rec) (x:List Int) (j:Nat):Prop:=Cn.cls l (x.getD j 0)≠0∧Cn.cls l (x.getD j 0)<Cn.cls l (x.getD (j - 1) 0)
theorem falls_iff (l:List Rec):∀ x:List Int,Cn.fallsA l x=true↔∃ j,1≤j∧j<x.length∧dips l x j
 | []=>by simp [Cn.fallsA]
 | [a]=>by
  simp only [Cn.fallsA]
  constructor
  ·intro h; cases h
  ·rintro ⟨j,h1,h2,_⟩
   simp at h2
   omega
 | a :: b :: r=>by
  rw [Cn.fallsA,Bool.or_eq_true,falls_iff l (b :: r),decide_eq_true_iff]
  constructor
  ·rintro (h | ⟨j,h1,h2,h3⟩)
   ·exact ⟨1,by omega,by simp,by simpa [dips] using h⟩
   ·refine ⟨j+1,by omega,by simp at h2 ⊢; omega,?_⟩
    obtain ⟨j,rfl⟩:∃ i,j=i+1:=⟨j - 1,by omega⟩
    simpa [dips] using h3
  ·rintro ⟨j,h1,h2,h3⟩
   obtain ⟨j,rfl⟩:∃ i,j=i+1:=⟨j - 1,by omega⟩
   cases j with
   | zero=>exact .inl (by simpa [dips] using h3)
   | succ j=>exact .inr ⟨j+1,by omega,by simp at h2 ⊢; omega,by simpa [dips] using h3⟩
theorem falls_at {l x j} (h1:1≤j) (h2:j<x.length) (h:dips l x j):Cn.fallsA l x=true:=(falls_iff l x).2 ⟨j,h1,h2,h⟩
theorem falls_not {l x} (h:∀ j,1≤j→j<x.length→¬ dips l x j):Cn.fallsA l x=false:=by
 rcases hb:Cn.fallsA l x with _ | _
 ·rfl
 ·obtain ⟨j,a,b,c⟩:=(falls_iff l x).1 hb
  exact absurd c (h j a b)
theorem cls_fit {w v rs} (hv:Rcs w v rs) c:I64 (Cn.cls rs c):=by
 rcases hit_at hv 2 c with ⟨_,h2⟩ | ⟨k,_,_,_,_,_,h2,_,_,_,_,hf⟩
 ·unfold Cn.cls; rw [h2]; exact ⟨by decide,by decide⟩
 ·unfold Cn.cls; rw [h2]; exact hf.n
def FaIn (w:World) (v u:Value) (rs:List Rec) (xs:List Int) (k:Nat) (wr:World):Prop:=Rcs wr v rs∧Sk .i32 wr u xs∧Below w.heap.size w wr∧∀ j,1≤j→j<k→j<xs.length→¬ dips rs xs j
set_option maxRecDepth 8000 in
set_option maxHeartbeats 2000000 in
theorem refFalls_any v u rs xs w (hv:Rcs w v rs) (hu:Sk .i32 w u xs) (hxl:xs.length≤1000000000):Calls Tryz.prog 72 #[v,u] w (BoolB w (Cn.fallsA rs xs)):=by
 have HAT:Hid (∀ j,1≤j→j<xs.length→dips rs xs j→Cn.fallsA rs xs=true):=fun j a b c=>falls_at a b c
 have HNO:Hid ((∀ j,1≤j→j<xs.length→¬ dips rs xs j)→Cn.fallsA rs xs=false):=falls_not
 generalize Cn.fallsA rs xs=res at *
 have HW:Hid (FaIn w v u rs xs 1 w):=⟨hv,hu,Below.refl _ _,fun j a b _=>by omega⟩
 have hlen:=hv.1
 have HCF:Hid (∀ c,I64 (Cn.cls rs c)):=fun c=>cls_fit hv c
 obtain ⟨ao,cap,rfl,_,_⟩:=hv.shape
 obtain ⟨uo,ucap,rfl,hu1,hu2⟩:=hu.shape
 go_enter Tryz.func72,Tryz.ntmps72
 go_wp2
 go_loopw [5,6] (fun iv _ wr=>∃ k:Nat,iv=.int .i64 k∧1≤k∧k≤xs.length+1∧FaIn w (.slice ao rs.length cap) (.slice uo xs.length ucap) rs xs k wr) (fun iv _ _=>xs.length+1 - (intOf iv).toNat)
 case atStart=>exact ⟨1,rfl,by omega,by omega,Uh HW⟩
 case round =>
  obtain ⟨k,rfl,hk0,hk1,hrcs,hsk,hbel,hno⟩:=hrel
  by_cases hlt:k<xs.length
  ·obtain ⟨b,off,cap',he,_,_,hcc⟩:=hsk.place (by omega)
   obtain ⟨rfl,rfl⟩:uo=some ⟨b,off,none⟩∧ucap=cap':=by simpa using he
   have hcell:=hcc k hlt
   have K1:=Hd (refClass_any _ rs (xs.getD k 0) wr hrcs (rune_of hsk hlt))
   have K2:Hid (∀ w1,Below wr.heap.size wr w1→Calls Tryz.prog 109 #[.slice ao rs.length cap,.int .i32 (xs.getD (k - 1) 0)] w1 (IntB w1 (Cn.cls rs (xs.getD (k - 1) 0)))):=fun w1 h=>refClass_any _ rs _ w1 (hrcs.below h) (rune_of hsk (by omega))
   have HC0:Hid (∀ w1,Below wr.heap.size wr w1→w1.cell? ⟨b,off+(k - 1),none⟩=some (.int .i32 (xs.getD (k - 1) 0))):=fun w1 h=>by rw [Below.cell h (lt_of_cell? (hcc (k - 1) (by omega)))]; exact hcc (k - 1) (by omega)
   have HDIP:Hid (dips rs xs k↔Cn.cls rs (xs.getD k 0)≠0∧Cn.cls rs (xs.getD k 0)<Cn.cls rs (xs.getD (k - 1) 0)):=Iff.rfl
   have HNX:Hid (¬ dips rs xs k→∀ w1,Below wr.heap.size wr w1→FaIn w (.slice ao rs.length cap) (.slice (some ⟨b,off,none⟩) xs.length ucap) rs xs (k+1) w1):=fun hd w1 h=>⟨hrcs.below h,hsk.below h,bthen hbel h,fun j a c d=>by
    rcases Nat.lt_or_ge j k with h | h
    ·exact hno j a h d
    ·obtain rfl:j=k:=by omega
     exact hd⟩
   have HB:=Hd hbel
   clear hcc hrcs hsk hbel hno he HNO
   have HT:=Hd ((Uh HAT) k hk0 hlt)
   have i1:=(Uh HCF) (xs.getD k 0)
   have i0:=(Uh HCF) (xs.getD (k - 1) 0)
   generalize Cn.cls rs (xs.getD k 0)=d1 at *
   generalize Cn.cls rs (xs.getD (k - 1) 0)=d0 at *
   generalize xs.getD k 0=z1 at *
   generalize xs.getD (k - 1) 0=z0 at *
   obtain ⟨i10,i11⟩:=i1
   obtain ⟨i00,i01⟩:=i0
   go_wp2_with fail
   refine (Uh K1).mono ?_
   rintro e w1 ⟨rfl,hb1⟩
   have hcell:=(Uh HC0) w1 hb1
   have K3:=Hd ((Uh K2) w1 hb1)
   have HN1:Hid (∀ w2,Below w1.heap.size w1 w2→¬ dips rs xs k→FaIn w (.slice ao rs.length cap) (.slice (some ⟨b,off,none⟩) xs.length ucap) rs xs (k+1) w2):=fun w2 h hd=>(Uh HNX) hd w2 (bthen hb1 h)
   have HB1:=Hd (bthen (Uh HB) hb1)
   by_cases hz:d1=0
   ·have HX:Hid (FaIn w (.slice ao rs.length cap) (.slice (some ⟨b,off,none⟩) xs.length ucap) rs xs (k+1) w1):=(Uh HN1) w1 (Below.refl _ _) (fun h=>((Uh HDIP).1 h).1 hz)
    subst hz
    go_wp2
    go_round
    case rel=>exact ⟨k+1,by go_num,by omega,by omega,Uh HX⟩
    case measure=>simp [intOf]; omega
   ·have qz:(d1==0)=false:=beq_eq_false_iff_ne.2 hz
    by_cases hd:d1<d0
    ·obtain rfl:=(Uh HT) ((Uh HDIP).2 ⟨hz,hd⟩)
     go_wp2_with fail
     refine (Uh K3).mono ?_
     rintro e w2 ⟨rfl,hb2⟩
     have HF:=Hd (bthen (Uh HB1) hb2)
     go_wp2
     go_ret
     exact ⟨rfl,Uh HF⟩
    ·have HX:=Hd (fun w2 h=>(Uh HN1) w2 h (fun h=>hd ((Uh HDIP).1 h).2))
     go_wp2_with fail
     refine (Uh K3).mono ?_
     rintro e w2 ⟨rfl,hb2⟩
     have HY:=Hd ((Uh HX) w2 hb2)
     go_wp2
     go_round
     case rel=>exact ⟨k+1,by go_num,by omega,by omega,Uh HY⟩
     case measure=>simp [intOf]; omega
  ·obtain rfl:=(Uh HNO) (fun j a b=>hno j a (by omega) b)
   have HF:=Hd hbel
   go_wp2
   go_ret
   exact ⟨rfl,Uh HF⟩
theorem refValid_any c w (h:Rune c):Calls Tryz.prog 105 #[.int .i32 c] w fun e w'=>e=.returned (.bool (Cn.scalar c))∧w'=w:=by
 obtain ⟨h1,h2⟩:=h
 by_cases a1:0≤c
 ·by_cases a2:c≤55295
  ·have hs:Cn.scalar c=true:=by unfold Cn.scalar; simp; omega
   rw [hs]
   go_enter Tryz.func105,Tryz.ntmps105
   go_wp2
   go_ret
   exact ⟨rfl,rfl⟩
  ·by_cases a3:57344≤c
   ·by_cases a4:c≤1114111
    ·have hs:Cn.scalar c=true:=by unfold Cn.scalar; simp; omega
     rw [hs]
     go_enter Tryz.func105,Tryz.ntmps105
     go_wp2
     go_ret
     exact ⟨rfl,rfl⟩
    ·have hs:Cn.scalar c=false:=by unfold Cn.scalar; simp; omega
     rw [hs]
     go_enter Tryz.func105,Tryz.ntmps105
     go_wp2
     go_ret
     exact ⟨rfl,rfl⟩
   ·have hs:Cn.scalar c=false:=by unfold Cn.scalar; simp; omega
    rw [hs]
    go_enter Tryz.func105,Tryz.ntmps105
    go_wp2
    go_ret
    exact ⟨rfl,rfl⟩
 ·have a3:¬ 57344≤c:=by omega
  have hs:Cn.scalar c=false:=by unfold Cn.scalar; simp; omega
  rw [hs]
  go_enter Tryz.func105,Tryz.ntmps105
  go_wp2
  go_ret
  exact ⟨rfl,rfl⟩
theorem all_false {x:List Int} {f:Int→Bool} {k} (hk:k<x.length) (h:f (x.getD k 0)=false):x.all f=false:=by grind
theorem all_true {x:List Int} {f:Int→Bool} (h:∀ j,j<x.length→f (x.getD j 0)=true):x.all f=true:=by
 rw [List.all_eq_true]
 intro y hy
 obtain ⟨j,hj,rfl⟩:=List.getElem_of_mem hy
 have:=h j hj
 simpa [List.getD,hj] using this
theorem refSound_any u xs w (hu:Sk .i32 w u xs) (hl:xs.length≤1000000000):Calls Tryz.prog 138 #[u] w fun e w'=>e=.returned (.bool (xs.all Cn.scalar))∧w'=w:=by
 have HAT:Hid (∀ k,k<xs.length→Cn.scalar (xs.getD k 0)=false→xs.all Cn.scalar=false):=fun k=>all_false
 have HNO:Hid ((∀ j,j<xs.length→Cn.scalar (xs.getD j 0)=true)→xs.all Cn.scalar=true):=all_true
 generalize xs.all Cn.scalar=res at *
 have HS:=Hd hu
 obtain ⟨uo,ucap,rfl,hu1,hu2⟩:=hu.shape
 go_enter Tryz.func138,Tryz.ntmps138
 go_wp2
 go_loop [3] (fun iv=>∃ k:Nat,iv=.int .i64 k∧k≤xs.length∧∀ j,j<k→Cn.scalar (xs.getD j 0)=true) (fun iv=>xs.length - (intOf iv).toNat)
 case atStart=>exact ⟨0,rfl,by omega,fun j hj=>absurd hj (Nat.not_lt_zero _)⟩
 case round =>
  obtain ⟨k,rfl,hk,hno⟩:=hrel
  by_cases hlt:k<xs.length
  ·obtain ⟨b,off,cap',he,_,_,hcc⟩:=(Uh HS).place (by omega)
   obtain ⟨rfl,rfl⟩:uo=some ⟨b,off,none⟩∧ucap=cap':=by simpa using he
   have hcell:=hcc k hlt
   have K:=Hd (refValid_any (xs.getD k 0) w (rune_of (Uh HS) hlt))
   have HT:=Hd ((Uh HAT) k hlt)
   have HN:Hid (Cn.scalar (xs.getD k 0)=true→∀ j,j<k+1→Cn.scalar (xs.getD j 0)=true):=fun h j hj=>by
    rcases Nat.lt_or_ge j k with h' | h'
    ·exact hno j h'
    ·grind
   clear hcc he HS HAT HNO hno
   generalize hy:Cn.scalar (xs.getD k 0)=y at HT HN K
   generalize xs.getD k 0=z at *
   go_wp2_with fail
   refine (Uh K).mono ?_
   rintro e w1 ⟨rfl,rfl⟩
   cases y with
   | false =>
    obtain rfl:=(Uh HT) rfl
    go_wp2
    go_ret
    exact ⟨rfl,rfl⟩
   | true =>
    have HN2:=Hd ((Uh HN) rfl)
    go_wp2
    go_round
    case rel=>exact ⟨k+1,by go_num,by omega,Uh HN2⟩
    case measure=>simp [intOf]; omega
  ·obtain rfl:k=xs.length:=by omega
   obtain rfl:=(Uh HNO) hno
   go_wp2
   go_ret
   exact ⟨rfl,rfl⟩
theorem refList_any u xs (a b:Nat) w (hu:Sk .i32 w u xs) (hl:xs.length≤1000000000):Calls Tryz.prog 106 #[u,.int .i64 a,.int .i64 b] w fun e w'=>e=.returned (.bool (Cn.list xs a b))∧w'=w:=by
 have K:=Hd (refSound_any u xs w hu hl)
 obtain ⟨uo,ucap,rfl,hu1,hu2⟩:=hu.shape
 unfold Cn.list
 by_cases h1:a≤xs.length
 ·by_cases h2:xs.length≤b
  ·rw [decide_eq_true ⟨h1,h2⟩,Bool.true_and]
   go_enter Tryz.func106,Tryz.ntmps106
   go_wp2_with fail
   refine (Uh K).mono ?_
   rintro e w1 ⟨rfl,rfl⟩
   go_wp2
   go_ret
   exact ⟨rfl,rfl⟩
  ·rw [decide_eq_false (fun h=>h2 h.2),Bool.false_and]
   go_enter Tryz.func106,Tryz.ntmps106
   go_wp2
   go_ret
   exact ⟨rfl,rfl⟩
 ·rw [decide_eq_false (fun h=>h1 h.1),Bool.false_and]
  go_enter Tryz.func106,Tryz.ntmps106
  go_wp2
  go_ret
  exact ⟨rfl,rfl⟩
theorem refWeight_any u w (hu:u<18446744073709551616):Calls Tryz.prog 104 #[.float .f64 u] w fun e w'=>e=.returned (.bool (Cn.weight u))∧w'=w:=by
 have K:=Hd (bits_any u w)
 unfold Cn.weight
 by_cases h1:u≤9218868437227405312
 ·rw [decide_eq_true h1]
  have h2:(u:Int)≤9218868437227405312:=by omega
  go_enter Tryz.func104,Tryz.ntmps104
  go_wp2_with fail
  refine (Uh K).mono ?_
  rintro e w1 ⟨rfl,rfl⟩
  go_wp2
  go_ret
  exact ⟨rfl,rfl⟩
 ·rw [decide_eq_false h1]
  have h2:¬ (u:Int)≤9218868437227405312:=by omega
  go_enter Tryz.func104,Tryz.ntmps104
  go_wp2_with fail
  refine (Uh K).mono ?_
  rintro e w1 ⟨rfl,rfl⟩
  go_wp2
  go_ret
  refine ⟨?_,rfl⟩
  show Ending.returned (.bool (decide ((u:Int)≤9218868437227405312)))=_
  rw [decide_eq_false (by omega)]
theorem empty_of {b:ByteArray} (h:b.size=0):b=⟨#[]⟩:=by
 obtain ⟨⟨l⟩⟩:=b
 have:l=[]:=by simpa [ByteArray.size] using h
 subst this; rfl
theorem list_ne {b:ByteArray} (h:¬ b.size=0):¬ b.toList=[]:=fun e=>h (by
 have:b.data.toList.length=0:=by rw [← ByteArray.toList_eq,e]; rfl
 show b.data.size=0
 rw [← Array.length_toList]
 exact this)
def bareB (n0:Int) (m:Nat) (nm ot:ByteArray) (wt:Nat) (nf tof namef otherf wf:Bool):Bool :=
 (nf || decide (n0=0)) && (tof || decide (m=0)) && (namef || decide (nm.size=0)) && (otherf || decide (ot.size=0)) && (wf || decide (wt=0))
theorem way3 (b:Bool) (c:Prop):b=true∨(b=false∧c)∨(b=false∧¬ c):=by cases b <;> simp [Classical.em]
set_option maxHeartbeats 16000000 in
theorem bare_any kd lo hi n0 ao m cap nm ot wt nf tof namef otherf wf w:Calls Tryz.prog 102 #[.agg #[.int .i64 kd,.int .i64 lo,.int .i64 hi,.int .i64 n0,.slice ao m cap,.string nm,.string ot,.float .f64 wt],.bool nf,.bool tof,.bool namef,.bool otherf,.bool wf] w (BoolB w (bareB n0 m nm ot wt nf tof namef otherf wf)):=by
 have HB:Hid (∀ o,Below w.heap.size w (w.alloc o)):=fun o=>(Below.refl _ _).alloc (Nat.le_refl _) o
 have HBT:=Hd (fun w=>bits_any wt w)
 obtain ⟨V,hV⟩:∃ V,bareB n0 m nm ot wt nf tof namef otherf wf=V:=⟨_,rfl⟩
 rw [hV]
 all_goals
  rcases way3 nf (n0=0) with rfl | ⟨rfl,c⟩ | ⟨rfl,c⟩
  rotate_left 2
  ·have q0:(n0==0)=false:=beq_eq_false_iff_ne.2 c
   obtain rfl:V=false:=hV.symm.trans (by simp [bareB, *])
   clear hV
   go_enter Tryz.func102,Tryz.ntmps102
   go_wp2_with fail
   try (refine (Uh HBT _).mono ?_; rintro e w1 ⟨rfl,rfl⟩; go_wp2)
   go_ret
   exact ⟨rfl,(Uh HB) _⟩
  rotate_left
  subst c
 all_goals
  rcases way3 tof (m=0) with rfl | ⟨rfl,c⟩ | ⟨rfl,c⟩
  rotate_left 2
  ·have q0:((m:Int)==0)=false:=beq_eq_false_iff_ne.2 (by omega)
   obtain rfl:V=false:=hV.symm.trans (by simp [bareB, *])
   clear hV
   go_enter Tryz.func102,Tryz.ntmps102
   go_wp2_with fail
   try (refine (Uh HBT _).mono ?_; rintro e w1 ⟨rfl,rfl⟩; go_wp2)
   go_ret
   exact ⟨rfl,(Uh HB) _⟩
  rotate_left
  subst c
 all_goals
  rcases way3 namef (nm.size=0) with rfl | ⟨rfl,c⟩ | ⟨rfl,c⟩
  rotate_left 2
  ·have q0:=list_ne c
   obtain rfl:V=false:=hV.symm.trans (by simp [bareB, *])
   clear hV
   go_enter Tryz.func102,Tryz.ntmps102
   go_wp2_with fail
   try (refine (Uh HBT _).mono ?_; rintro e w1 ⟨rfl,rfl⟩; go_wp2)
   go_ret
   exact ⟨rfl,(Uh HB) _⟩
  rotate_left
  obtain rfl:=empty_of c
 all_goals
  rcases way3 otherf (ot.size=0) with rfl | ⟨rfl,c⟩ | ⟨rfl,c⟩
  rotate_left 2
  ·have q0:=list_ne c
   obtain rfl:V=false:=hV.symm.trans (by simp [bareB, *])
   clear hV
   go_enter Tryz.func102,Tryz.ntmps102
   go_wp2_with fail
   try (refine (Uh HBT _).mono ?_; rintro e w1 ⟨rfl,rfl⟩; go_wp2)
   go_ret
   exact ⟨rfl,(Uh HB) _⟩
  rotate_left
  obtain rfl:=empty_of c
 all_goals
  rcases way3 wf (wt=0) with rfl | ⟨rfl,c⟩ | ⟨rfl,c⟩
  rotate_left 2
  ·have q0:((wt:Int)==0)=false:=beq_eq_false_iff_ne.2 (by omega)
   obtain rfl:V=false:=hV.symm.trans (by simp [bareB, *])
   clear hV
   go_enter Tryz.func102,Tryz.ntmps102
   go_wp2_with fail
   try (refine (Uh HBT _).mono ?_; rintro e w1 ⟨rfl,rfl⟩; go_wp2)
   go_ret
   exact ⟨rfl,(Uh HB) _⟩
  rotate_left
  subst c
 all_goals
  obtain rfl:V=true:=hV.symm.trans (by simp [bareB, *])
  clear hV
  go_enter Tryz.func102,Tryz.ntmps102
  go_wp2_with fail
  try (refine (Uh HBT _).mono ?_; rintro e w1 ⟨rfl,rfl⟩; go_wp2)
  go_ret
  exact ⟨rfl,(Uh HB) _⟩
theorem refBare_any (r:Rec) vt nf tof namef otherf wf w (hv:Sk .i32 w vt r.to):Calls Tryz.prog 102 #[recV r vt,.bool nf,.bool tof,.bool namef,.bool otherf,.bool wf] w (BoolB w (Cn.bare r nf tof namef otherf wf)):=by
 obtain ⟨ao,cap,rfl,_,_⟩:=hv.shape
 exact bare_any _ _ _ _ _ _ _ _ _ _ _ _ _ _ _ _
end Go.Proofs.YtihhhjodonkkcaaGreatDoor
