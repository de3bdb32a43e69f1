/- Uo9 CcP7 Uh9 CcS7 CcU7 -/
import Derived.Test.YtihhhjodonkkcaaGreatDoorX18
namespace Go.Proofs.YtihhhjodonkkcaaGreatDoor
open Go.RowKit Go.MapKept Go.WideMaps
open Go.ChangeMaps (setBlock)
def KP (v:Value):Prop:=∃ a b,v=pk2 a b∧Rune a∧Rune b
theorem ulawP:KeyLaw Tryz.prog 181:=deep_law_laid laidOut7 (m:=3) (by decide) (of_decide_eq_true (by kernel_rfl)) (by kernel_rfl) (by kernel_rfl)
theorem cellsUp:Tryz.prog.cellsOf 181=2:=by kernel_rfl
theorem keyTypeUp:Tryz.prog.keyType 181=true:=by kernel_rfl
theorem keyLits_up {a b} (ha:Rune a) (hb:Rune b) D:Tryz.prog.keyLits (D+2) 181 [.int .i32 a,.int .i32 b]=some [.int .i32 a,.int .i32 b]:=by
 rw [Program.keyLits.eq_def]
 simp only [Tryz.underlying181,cellsUp]
 rw [if_pos ⟨rfl,by simp⟩]
 simp [List.mapM_cons,keyLits_rn ha D,keyLits_rn hb D,cellsRn]
theorem up_key {v} (h:KP v):∃ l,keyOf Tryz.prog 181 v=some l:=by
 obtain ⟨a,b,rfl,ha,hb⟩:=h
 have hf:(pk2 a b).formed Tryz.prog 181=true:=by
  simp [pk2,Value.formed,Tryz.underlying181,cellsUp]
 obtain ⟨n,hn⟩:∃ n,Tryz.prog.types.size+1=n+2:=⟨Tryz.prog.types.size - 1,by have:0<Tryz.prog.types.size:=of_decide_eq_true (by kernel_rfl); omega⟩
 refine ⟨.string (keyBytes [.int .i32 a,.int .i32 b]),?_⟩
 unfold keyOf
 simp only [Tryz.underlying181,keyTypeUp,hf,Bool.and_self,if_true,hn]
 show (Tryz.prog.keyLits (n+2) 181 [.int .i32 a,.int .i32 b]).map _=_
 rw [keyLits_up ha hb n]
 rfl
theorem klP:KL 181 KP:=KL.of ulawP fun _ h=>up_key h
def KR (v:Value):Prop:=∃ a,v=.int .i32 a
theorem klR:KL 21 KR:=by
 have hk:∀ v,KR v→IsKey (.int .i32) v:=fun v h=>by obtain ⟨a,rfl⟩:=h; exact rfl
 refine ⟨fun w em v h=>run_checkKey Tryz.underlying21 (hk v h) em 9999,fun w x h es hes=>?_,fun w v h=>?_⟩
 ·rcases findNow_spec (hk x h) es 0 (fun e he=>hk _ (hes e he)) with ⟨h1,h2⟩ | ⟨j,e,h1,h2,h3⟩
  ·exact .inl ⟨run_findKey Tryz.underlying21 h1,h2⟩
  ·rw [Nat.zero_add] at h1
   exact .inr ⟨j,e,run_findKey Tryz.underlying21 h1,h2,h3⟩
 ·exact run_keyThatStays (hk v h)
def KN (v:Value):Prop:=∃ a b,v=pk a b∧Sh a∧Sh b
theorem ulawN:KeyLaw Tryz.prog 184:=deep_law_laid laidOut7 (m:=3) (by decide) (of_decide_eq_true (by kernel_rfl)) (by kernel_rfl) (by kernel_rfl)
theorem cellsNm:Tryz.prog.cellsOf 184=2:=by kernel_rfl
theorem keyTypeNm:Tryz.prog.keyType 184=true:=by kernel_rfl
theorem keyLits_nm {a b} (ha:Sh a) (hb:Sh b) D:Tryz.prog.keyLits (D+2) 184 [.string a,.string b]=some [.string a.data.toList,.string b.data.toList]:=by
 rw [Program.keyLits.eq_def]
 simp only [Tryz.underlying184,cellsNm]
 rw [if_pos ⟨rfl,by simp⟩]
 simp [List.mapM_cons,keyLits_str ha D,keyLits_str hb D,cellsSt]
theorem nm_key {v} (h:KN v):∃ l,keyOf Tryz.prog 184 v=some l:=by
 obtain ⟨a,b,rfl,ha,hb⟩:=h
 have hf:(pk a b).formed Tryz.prog 184=true:=by
  simp [pk,Value.formed,Tryz.underlying184,cellsNm]
 obtain ⟨n,hn⟩:∃ n,Tryz.prog.types.size+1=n+2:=⟨Tryz.prog.types.size - 1,by have:0<Tryz.prog.types.size:=of_decide_eq_true (by kernel_rfl); omega⟩
 refine ⟨.string (keyBytes [.string a.data.toList,.string b.data.toList]),?_⟩
 unfold keyOf
 simp only [Tryz.underlying184,keyTypeNm,hf,Bool.and_self,if_true,hn]
 show (Tryz.prog.keyLits (n+2) 184 [.string a,.string b]).map _=_
 rw [keyLits_nm ha hb n]
 rfl
theorem klN:KL 184 KN:=KL.of ulawN fun _ h=>nm_key h
namespace Cn
def pairOf (l:List Rec) (a b:Int):Option Int:=(l.reverse.find? (isP a b)).map (·.lo)
def secOf (l:List Rec) (b:Int):Nat:=l.countP fun r=>decide (r.kind=7∧r.to.getD 1 0=b)
theorem pairOf_snoc l r a b:pairOf (l++[r]) a b=if isP a b r=true then some r.lo else pairOf l a b:=by
 unfold pairOf
 rw [List.reverse_append,List.reverse_cons,List.reverse_nil,List.nil_append,List.singleton_append,List.find?_cons]
 by_cases h:isP a b r=true
 ·rw [h,if_pos rfl]; rfl
 ·grind
theorem secOf_snoc l r b:secOf (l++[r]) b=secOf l b+if r.kind=7∧r.to.getD 1 0=b then 1 else 0:=by
 unfold secOf
 rw [List.countP_append,List.countP_singleton]
 by_cases h:r.kind=7∧r.to.getD 1 0=b
 ·grind
 ·grind
theorem secOf_le l b:secOf l b≤l.length:=List.countP_le_length
end Cn
def pairC (l:List Rec) (v:Value):Option Value :=
 match v with
 | .agg ⟨[.int .i32 a,.int .i32 b]⟩=>(Cn.pairOf l a b).map (Value.int .i32)
 | _=>none
def secC (l:List Rec) (v:Value):Option Value :=
 match v with
 | .int .i32 b=>if Cn.secOf l b=0 then none else some (.int .i64 (Cn.secOf l b:Nat))
 | _=>none
theorem pairC_pk l a b:pairC l (pk2 a b)=(Cn.pairOf l a b).map (Value.int .i32):=rfl
theorem pairC_other {l r v} (h:∀ a b,v=pk2 a b→¬ (r.kind=7∧r.to.getD 0 0=a∧r.to.getD 1 0=b)):pairC (l++[r]) v=pairC l v:=by
 unfold pairC
 split
 ·rename_i a b
  rw [Cn.pairOf_snoc,if_neg]
  intro hp
  exact h a b rfl (of_decide_eq_true hp)
 ·rfl
theorem secC_other {l r v} (h:∀ b,v=.int .i32 b→¬ (r.kind=7∧r.to.getD 1 0=b)):secC (l++[r]) v=secC l v:=by
 unfold secC
 split
 ·rename_i b
  rw [Cn.secOf_snoc,if_neg (h b rfl),Nat.add_zero]
 ·rfl
theorem pairC_nil v:pairC [] v=none:=by
 unfold pairC
 split <;> rfl
theorem secC_nil v:secC [] v=none:=by
 unfold secC
 split <;> rfl
open Go.RowKit
open Go.ChangeMaps (setBlock)
theorem Rsh.shape {w0 W:World} {v:Value} {xs:List Sp} (h:Rsh w0 W v xs):∃ ao cap,v=.slice ao xs.length cap∧xs.length≤cap∧cap≤9223372036854775807:=by
 rcases h.1.2 with ⟨rfl,h0⟩ | ⟨g,cap,cur,rfl,_,_,hn,hcap,_⟩
 ·exact ⟨none,0,by rw [h0],by omega,by omega⟩
 ·exact ⟨_,cap,rfl,hn,by unfold maxLen at hcap; omega⟩
theorem filter_snoc (p:Rec→Bool) (l:List Rec) (r:Rec):(l++[r]).filter p=l.filter p++(if p r then [r] else []):=by
 rw [List.filter_append]
 cases h:p r <;> simp [h]
def is6 (r:Rec):Bool:=decide (r.kind=6)
def is78 (r:Rec):Bool:=decide (r.kind=7∨r.kind=8)
def Made (w0 wr:World) (l:List Rec) (k:Nat):Prop:=∃ (cv ov:Value) (cxs oxs:List Sp),NI w0 wr (Cn.firstP (l.take k)) cv ov cxs oxs∧cxs.map (·.1)=(l.take k).filter is6∧oxs.map (·.1)=(l.take k).filter is78
theorem Made.next {w0 wr:World} {l:List Rec} {k:Nat} {r:Rec} {cv ov:Value} {cxs oxs cxs' oxs':List Sp} {c:Int→Int→Option Int} (htk:l.take (k+1)=l.take k++[r])
  (h:NI w0 wr c cv ov cxs' oxs') (hc:c=Cn.firstP (l.take k++[r])) (e1:cxs.map (·.1)=(l.take k).filter is6) (e2:oxs.map (·.1)=(l.take k).filter is78)
  (h1:cxs'.map (·.1)=cxs.map (·.1)++(if is6 r then [r] else [])) (h2:oxs'.map (·.1)=oxs.map (·.1)++(if is78 r then [r] else [])):Made w0 wr l (k+1):=by
 subst hc
 exact ⟨cv,ov,cxs',oxs',by rw [htk]; exact h,by rw [htk,filter_snoc,h1,e1],by rw [htk,filter_snoc,h2,e2]⟩
theorem made_len {l:List Rec} {k:Nat} {cxs oxs:List Sp} (e1:cxs.map (·.1)=(l.take k).filter is6) (e2:oxs.map (·.1)=(l.take k).filter is78) (hl:l.length≤4096):cxs.length≤4096∧oxs.length≤4096:=by
 have h1:=congrArg List.length e1
 have h2:=congrArg List.length e2
 rw [List.length_map] at h1 h2
 have g1:=List.length_filter_le is6 (l.take k)
 have g2:=List.length_filter_le is78 (l.take k)
 have g3:(l.take k).length≤l.length:=by simp; omega
 omega
theorem new_cells (W:World) (r:Rec) (tao:Option Addr) (tcap:Nat) (n:Nat) (hn:W.heap.size=n):∀ j u,(encR (r,tao,r.to.length,tcap))[j]?=some u→(W.alloc (.cells #[.int .i64 r.kind,.int .i64 r.lo,.int .i64 r.hi,.int .i64 r.n,.slice tao r.to.length tcap,.string r.name,.string r.other,.float .f64 r.wt] 59)).cell? ((⟨n,0,none⟩:Addr).add j)=some u:=rec_new2 W n hn r (.slice tao r.to.length tcap)
theorem cell_far7 {W:World} {r L j:Nat} {v:Value} (o:Obj) (h:L≠r) (hc:W.cell? ⟨L,j,none⟩=some v):(setBlock W r o).cell? ⟨L,j,none⟩=some v:=by
 rw [World.cell?_of_block (setB_far W o h)]; exact hc
theorem mem_getD {xs:List Int} {i:Nat} (h:i<xs.length):xs.getD i 0∈xs:=by simp [List.getD,h]
def IndexB (w0:World) (l:List Rec) (e:Ending) (w':World):Prop:=∃ cv ov cs os,e=.returned (xV cv ov (.map (some (w0.heap.size+1))))∧Idx l w' cv ov cs os∧PAt w' (w0.heap.size+1) (Cn.firstP l)∧Below w0.heap.size w0 w'
def nw (w0:World):World:=((w0.alloc (.cells #[.slice none 0 0,.slice none 0 0,.map none] 125)).alloc (.map #[] 0)).alloc (.cells #[.slice none 0 0,.slice none 0 0,.map (some (w0.heap.size+1))] 125)
theorem nw_ni (w0:World):NI w0 (nw w0) (fun _ _=>none) (.slice none 0 0) (.slice none 0 0) [] []:=by
 have e:(nw w0).heap=((w0.heap.push (.cells #[.slice none 0 0,.slice none 0 0,.map none] 125 (0,0))).push (.map #[] 0)).push (.cells #[.slice none 0 0,.slice none 0 0,.map (some (w0.heap.size+1))] 125 (0,0)):=rfl
 refine ⟨?_,⟨#[],0,?_,pempty⟩,?_,⟨World.ownsRow_nil _ _ _ _,fun _ h=>by cases h⟩,⟨World.ownsRow_nil _ _ _ _,fun _ h=>by cases h⟩,fun g h=>by simp [Value.ownBlock] at h,?_⟩
 ·rw [e,Array.getElem?_push,Array.getElem?_push,Array.getElem?_push]; simp; omega
 ·rw [e,Array.getElem?_push,Array.getElem?_push]; simp
 ·rw [e,Array.getElem?_push]; simp
 ·exact (((Below.refl _ _).alloc (Nat.le_refl _) _).alloc (by simp) _).alloc (by simp; omega) _
set_option maxRecDepth 20000 in
set_option maxHeartbeats 16000000 in
theorem newIndex_any (v:Value) (l:List Rec) (w0:World) (hv:Rcs w0 v l) (hok:(Cn.check6 l).2=0):Calls Tryz.prog 75 #[v] w0 (IndexB w0 l):=by
 obtain ⟨i1,hj,hy0,hy1,hy2⟩:=info_parts Tryz.info59
 have hmm:=@run_makeMap Tryz.prog
 obtain ⟨hl,hright⟩:=Cn.check6_all hok
 have HR7:Hid (∀ i,i<l.length→(l.getD i Cn.none).kind=7→(l.getD i Cn.none).to.length=2∧Rune ((l.getD i Cn.none).to.getD 0 0)∧Rune ((l.getD i Cn.none).to.getD 1 0)):=fun i hi h7=>by
  have hm:l.getD i Cn.none∈l:=by simp [List.getD,hi]
  have hlist:=(Cn.right_decomp (hright _ hm) h7).2.2
  obtain ⟨⟨g1,g2⟩,g3⟩:=Cn.list_parts hlist
  refine ⟨by omega,?_,?_⟩
  ·have:=g3 ((l.getD i Cn.none).to.getD 0 0) (mem_getD (by omega))
   have:=of_decide_eq_true this
   unfold Rune; omega
  ·have:=g3 ((l.getD i Cn.none).to.getD 1 0) (mem_getD (by omega))
   have:=of_decide_eq_true this
   unfold Rune; omega
 have HFit:=Hd (fun i hi=>hv.fit (i:=i) hi)
 have HV:=Hd hv
 have HTake:Hid (∀ k,k<l.length→l.take (k+1)=l.take k++[l.getD k Cn.none]):=fun k hk=>by
  rw [List.take_add_one]; simp [List.getD,hk]
 have HTL:Hid (∀ k,k<l.length→(l.take k).length=k):=fun k hk=>by simp; omega
 have HEND:Hid (∀ w',Made w0 w' l l.length→Made w0 w' l l.length):=fun _ h=>h
 have HNI:=Hd (nw_ni w0)
 have HOK:=Hd hok
 have HRT:=Hd hright
 obtain ⟨ao,cap,rfl,hc1,hc2⟩:=hv.shape
 clear hv hok hright
 go_enter Tryz.func75,Tryz.ntmps75
 go_wp2
 go_loopw [4,5,6,7,12] (fun _ _ _ _ i wr=>∃ k:Nat,i=.int .i64 k∧k≤l.length∧Hid (Made w0 wr l k)) (fun _ _ _ _ i _=>l.length - (intOf i).toNat)
 case atStart=>exact ⟨0,rfl,by omega,⟨_,_,[],[],Uh HNI,by simp,by simp⟩⟩
 case round =>
  clear HNI
  obtain ⟨k,rfl,hk,HMADE⟩:=hrel
  by_cases hlt:k<l.length
  ·obtain ⟨cv,ov,cxs,oxs,hni,e1,e2⟩:=Uh HMADE
   obtain ⟨hcl,hol⟩:=made_len e1 e2 hl
   obtain ⟨b,off,cap',ev,_,_,hcells⟩:=(Uh HV).place (by omega)
   simp only [Value.slice.injEq] at ev
   obtain ⟨rfl,_,rfl⟩:=ev
   have hrec0:=hcells k hlt
   have hrec:=hrec0.below hni.bel
   obtain ⟨vt,x40,hsk0⟩:=hrec0.to
   have hfit:=(Uh HFit) k hlt
   have htk:=(Uh HTake) k hlt
   have htl:=(Uh HTL) k hlt
   have h7:=(Uh HR7) k hlt
   obtain ⟨tao,tcap,rfl,_,_⟩:=hsk0.shape
   have x4:wr.cell? ⟨b,off+k * 8+4,none⟩=some (.slice tao (l.getD k Cn.none).to.length tcap):=by rw [hni.bel.cell (lt_of_cell? x40)]; exact x40
   obtain ⟨x0,x1,x2,x3,_,x5,x6,x7⟩:=hrec
   generalize l.getD k Cn.none=r at *
   have HSK:=Hd hsk0
   have HSP:Hid (Sk .i32 w0 (sval (r,tao,r.to.length,tcap)) r.to∧RecFit r):=⟨hsk0,hfit⟩
   obtain ⟨Q,hQ⟩:∃ Q,(wr.alloc (.cells #[.int .i64 r.kind,.int .i64 r.lo,.int .i64 r.hi,.int .i64 r.n,.slice tao r.to.length tcap,.string r.name,.string r.other,.float .f64 r.wt] 59))=Q:=⟨_,rfl⟩
   have HBX:Hid (Q.heap[wr.heap.size]?=some (.cells #[.int .i64 r.kind,.int .i64 r.lo,.int .i64 r.hi,.int .i64 r.n,.slice tao r.to.length tcap,.string r.name,.string r.other,.float .f64 r.wt] 59 (0,0))):=by
    rw [← hQ]
    show (wr.heap.push _)[wr.heap.size]?=_
    simp
   have hs1:Q.heap.size=wr.heap.size+1:=by rw [← hQ]; simp
   have HNI1:=Hd (hni.below (hQ ▸ (Below.refl _ _).alloc (Nat.le_refl _) _))
   have HNEXT:=Hd (fun W c cv' ov' cxs' oxs' (h:NI w0 W c cv' ov' cxs' oxs') hc h1 h2=>Made.next (wr:=W) (c:=c) (cv:=cv') (ov:=ov') (cxs':=cxs') (oxs':=oxs') htk h hc e1 e2 h1 h2)
   have hbs:=hni.bel.size
   obtain ⟨cao,ccap,rfl,hcc1,hcc2⟩:=hni.hc.shape
   obtain ⟨oao,ocap,rfl,hoc1,hoc2⟩:=hni.ho.shape
   have hfl:∀ W a m,(store a (.float .f64 r.wt) m).run Tryz.prog W=stored Tryz.prog W a (.float .f64 r.wt) m:=fun W a m=>run_store Tryz.prog W a _ m rfl
   have HONE:=Hd (encR_one (r,tao,r.to.length,tcap))
   clear hrec0 hcells x40 hsk0 hfit htk hni e1 e2 HMADE HFit HTake HTL HR7 HV HOK HRT HEND
   by_cases k6:r.kind=6
   ·have HNIW:=HNI1
    clear h7
    obtain ⟨kd,lo,hi,nn,tq,nm,ot,wt⟩:=r
    dsimp only at *
    subst k6
    have y0:Q.cell? ⟨w0.heap.size+1+1,0,none⟩=some (.slice cao cxs.length ccap):=cell_of (j:=0) (Uh HNIW).hx (by show 0<3; omega)
    have HROW:Hid (∀ o,(Q.alloc o).ownsRow w0.heap.size 59 8 (.slice cao cxs.length ccap) cxs.length (cxs.flatMap encR)):=fun o=>(Uh HNIW).hc.1.alloc o
    have HNEW:=Hd (new_cells Q (⟨6,lo,hi,nn,tq,nm,ot,wt⟩:Rec) tao tcap (wr.heap.size+1) (by first | rfl | exact hs1))
    have HSTEP:=Hd (fun o v' w1 a b c=>(Uh HNIW).classes (o:=o) (v':=v') (w1:=w1) (Uh HSP) a b c)
    have hbsz:=(Uh HNIW).bel.size
    clear HNIW HSP HNI1 HBX
    subst hQ
    go_wp2_with (at_builtin; refine wpList_append_own_at _ rfl (.tmp 22) (.tmp 24) 22 rfl w0.heap.size 59 i1 (.agg #[.int .i64 0,.int .i64 0,.int .i64 0,.int .i64 0,.slice none 0 0,.string ⟨#[]⟩,.string ⟨#[]⟩,.float .f64 0]) 8 96 Tryz.underlying22 hj hy0 hy1 hy2 rfl (by decide) _ _ _ rfl ((Uh HROW) _) ⟨wr.heap.size+1,0,none⟩ 1 1 (encR ((⟨6,lo,hi,nn,tq,nm,ot,wt⟩:Rec),tao,tq.length,tcap)) rfl rfl (Uh HNEW) (Uh HONE) (by unfold maxLen; omega) (by omega) (by simp; omega) ?_)
    intro v' w9 hrow9 hg9 _ hat9
    obtain ⟨hb9,hw9⟩:=(Uh HSTEP) _ v' w9 hrow9 hg9 (by first | exact hat9 | simpa using hat9)
    have HM2:Hid (Made w0 (w9.setCell ⟨w0.heap.size+1+1,0,none⟩ v') l (k+1)):=(Uh HNEXT) _ _ _ _ _ _ hw9 (Cn.firstP_other (by simp)).symm (by simp [is6]) (by simp [is78])
    obtain ⟨ao9,cap9,rfl,_,_⟩:=hw9.hc.shape
    have z0:w9.cell? ⟨w0.heap.size+1+1,0,none⟩=some (.slice cao cxs.length ccap):=cell_of (j:=0) hb9 (by show 0<3; omega)
    have zf:=frozen_of (j:=0) hb9
    clear HROW HNEW HSTEP hrow9 hg9 hat9 hb9 hw9 HNEXT HONE y0
    generalize (cxs++[((⟨6,lo,hi,nn,tq,nm,ot,wt⟩:Rec),tao,tq.length,tcap)]).length=m9 at *
    go_wp2
    go_roundw
    case rel=>exact ⟨k+1,by go_num,by omega,HM2⟩
    case measure=>simp [intOf]; omega
   ·have q6:(r.kind==6)=false:=beq_eq_false_iff_ne.2 k6
    by_cases k7:r.kind=7
    ·obtain ⟨hto2,hra,hrb⟩:=h7 k7
     clear q6 h7
     obtain ⟨kd,lo,hi,nn,tq,nm,ot,wt⟩:=r
     dsimp only at *
     subst k7
     obtain ⟨SQ,hSQ⟩:∃ SQ:World→Prop,(fun W:World=>W.heap[wr.heap.size]?=some (.cells #[.int .i64 7,.int .i64 lo,.int .i64 hi,.int .i64 nn,.slice tao tq.length tcap,.string nm,.string ot,.float .f64 wt] 59 (0,0))∧W.cell? ⟨w0.heap.size+1+1,2,none⟩=some (.map (some (w0.heap.size+1))))=SQ:=⟨_,rfl⟩
     obtain ⟨SP,hSP⟩:∃ SP:World→Prop,(fun W:World=>SQ W∧Hid (Below Q.heap.size Q W))=SP:=⟨_,rfl⟩
     have HNIB:Hid (∀ W:World,Below Q.heap.size Q W→NI w0 W (Cn.firstP (l.take k)) (.slice cao cxs.length ccap) (.slice oao oxs.length ocap) cxs oxs):=fun W hW=>(Uh HNI1).below hW
     have HS:Hid (∀ W:World,Below Q.heap.size Q W→SP W):=fun W hW=>by
      rw [← hSP,← hSQ]
      exact ⟨⟨(hW.block _ (by omega)).trans (Uh HBX),cell_of (j:=2) ((Uh HNIB) W hW).hx (by show 2<3; omega)⟩,hW⟩
     have KPO:Hid (∀ W:World,Below w0.heap.size w0 W→Calls Tryz.prog 114 #[.agg #[.int .i64 7,.int .i64 lo,.int .i64 hi,.int .i64 nn,.slice tao tq.length tcap,.string nm,.string ot,.float .f64 wt]] W (fun e w'=>e=.returned (pk2 (tq.getD 0 0) (tq.getD 1 0))∧Below W.heap.size W w')):=fun W hW=>pairOf_any (⟨7,lo,hi,nn,tq,nm,ot,wt⟩:Rec) _ W ((Uh HSK).below hW) hto2
     have HLK:Hid (∀ W:World,Below Q.heap.size Q W→(Instr.lookup 123 (.map (some (w0.heap.size+1))) (pk2 (tq.getD 0 0) (tq.getD 1 0)) true).run Tryz.prog W=.ok (.tuple #[.int .i64 ((Cn.firstP (l.take k) (tq.getD 0 0) (tq.getD 1 0)).getD 0),.bool (Cn.firstP (l.take k) (tq.getD 0 0) (tq.getD 1 0)).isSome]) W):=fun W hW=>(look_ok ((Uh HNIB) W hW).hm hra hrb).1
     have HKN:Hid ((Cn.firstP (l.take k) (tq.getD 0 0) (tq.getD 1 0)).isSome=true→Cn.firstP (l.take k++[(⟨7,lo,hi,nn,tq,nm,ot,wt⟩:Rec)])=Cn.firstP (l.take k)):=fun h=>Cn.firstP_known (r:=(⟨7,lo,hi,nn,tq,nm,ot,wt⟩:Rec)) h
     have HUP:Hid ((Cn.firstP (l.take k) (tq.getD 0 0) (tq.getD 1 0)).isSome=false→∀ W:World,Below Q.heap.size Q W→∃ es' clock',(Instr.mapUpdate 123 (.map (some (w0.heap.size+1))) (pk2 (tq.getD 0 0) (tq.getD 1 0)) (.int .i64 (k:Int))).run Tryz.prog W=.ok () (setBlock W (w0.heap.size+1) (.map es' clock'))∧NI w0 (setBlock W (w0.heap.size+1) (.map es' clock')) (Cn.firstP (l.take k++[(⟨7,lo,hi,nn,tq,nm,ot,wt⟩:Rec)])) (.slice cao cxs.length ccap) (.slice oao oxs.length ocap) cxs oxs):=fun h W hW=>by
      have hn:Cn.firstP (l.take k) (tq.getD 0 0) (tq.getD 1 0)=none:=by simpa using h
      obtain ⟨es',cl',g1,g2⟩:=run_update ((Uh HNIB) W hW).hm hra hrb hn (k:Int)
      have hup5:=((Uh HNIB) W hW).upd g2
      have e5:=Cn.firstP_new (r:=(⟨7,lo,hi,nn,tq,nm,ot,wt⟩:Rec)) (l:=l.take k) rfl hn
      rw [htl] at e5
      refine ⟨es',cl',g1,?_⟩
      rw [e5]
      exact hup5
     have HWB:Hid (∀ W:World,Below Q.heap.size Q W→Below w0.heap.size w0 W):=fun W hW=>((Uh HNIB) W hW).bel
     clear HBX HSK hto2 htl
     generalize (Cn.firstP (l.take k) (tq.getD 0 0) (tq.getD 1 0)).getD 0=zf at *
     generalize (Cn.firstP (l.take k) (tq.getD 0 0) (tq.getD 1 0)).isSome=kn at *
     generalize tq.getD 0 0=pa at *
     generalize tq.getD 1 0=pb at *
     unfold pk2 at *
     have hd1:Below Q.heap.size Q Q.drew:=drewB ⟨1,rfl⟩
     have HFST:=Hd ((Uh HS) _ hd1)
     have KP1:=Hd ((Uh KPO) _ ((Uh HWB) _ hd1))
     subst hQ
     go_wp2
     refine wp_region_held_drew (S:=fun w'=>SP w') (by kernel_rfl) (Uh HFST) (fun hHeld=>?_)
     refine tk9 0 (.pointer (some ⟨w0.heap.size+1+1,2,none⟩)) ?_ (hy:=by (intro w hSw; obtain ⟨hS,s9⟩:=(congrFun hSP _).mpr hSw; obtain ⟨sb,s8⟩:=(congrFun hSQ _).mpr hS; obtain ⟨s0,s1,s2,s3,s4,s5,s6,s7⟩:=cells8 sb; go_simp))
     refine tk9 1 (.map (some (w0.heap.size+1))) ?_ (hy:=by (intro w hSw; obtain ⟨hS,s9⟩:=(congrFun hSP _).mpr hSw; obtain ⟨sb,s8⟩:=(congrFun hSQ _).mpr hS; obtain ⟨s0,s1,s2,s3,s4,s5,s6,s7⟩:=cells8 sb; go_simp))
     refine tk9 2 (.agg #[.int .i64 7,.int .i64 lo,.int .i64 hi,.int .i64 nn,.slice tao tq.length tcap,.string nm,.string ot,.float .f64 wt]) ?_ (hy:=by (intro w hSw; obtain ⟨hS,s9⟩:=(congrFun hSP _).mpr hSw; obtain ⟨sb,s8⟩:=(congrFun hSQ _).mpr hS; obtain ⟨s0,s1,s2,s3,s4,s5,s6,s7⟩:=cells8 sb; go_simp))
     refine rd9 3 fun K hK=>?_
     go_simp
     refine (Uh KP1).mono ?_
     rintro e W2 ⟨rfl,hb2⟩
     have hB2:=bthen hd1 hb2
     have HF2:=Hd ((Uh HS) W2 hB2)
     refine hK.out _ _ ?_ (fun hHeld=>?_)
     ·exact Uh HF2
     clear hK K
     try simp only [Act.put,sa9,sb9,sc9]
     refine tk9 4 (.tuple #[.int .i64 zf,.bool kn]) ?_ (hy:=by (intro w hSw; obtain ⟨hS,s9⟩:=(congrFun hSP _).mpr hSw; obtain ⟨sb,s8⟩:=(congrFun hSQ _).mpr hS; obtain ⟨s0,s1,s2,s3,s4,s5,s6,s7⟩:=cells8 sb; have hlk:=(Uh HLK) w (Uh s9); go_simp))
     refine tk9 5 (.tuple #[.int .i64 zf,.bool kn]) ?_
     refine tk9 6 (.int .i64 zf) ?_
     refine tk9 7 (.bool kn) ?_
     refine tk9 8 (.int .i64 zf) ?_
     refine tk9 9 (.bool kn) ?_
     refine wpAnyH_done (by kernel_rfl) ?_ _
     obtain ⟨tb,t8⟩:=(congrFun hSQ _).mpr ((congrFun hSP _).mpr (Uh HF2)).1
     obtain ⟨t0,t1,t2,t3,t4,t5,t6,t7⟩:=cells8 tb
     clear HF2 HFST KP1 hHeld
     cases kn
     ·obtain hup:=(Uh HUP) rfl
      have hd2:=bthen hB2 (drewB ⟨1,rfl⟩)
      have HFST:=Hd ((congrFun hSP _).mpr ((Uh HS) _ hd2)).1
      have KP2:=Hd ((Uh KPO) _ ((Uh HWB) _ hd2))
      have HUP2:=Hd hup
      clear hup
      go_wp2
      refine wp_region_held_drew (S:=fun w'=>SQ w') (by kernel_rfl) (Uh HFST) (fun hHeld=>?_)
      refine tk9 0 (.pointer (some ⟨w0.heap.size+1+1,2,none⟩)) ?_ (hy:=by (intro w hSw; obtain ⟨sb,s8⟩:=(congrFun hSQ _).mpr hSw; obtain ⟨s0,s1,s2,s3,s4,s5,s6,s7⟩:=cells8 sb; go_simp))
      refine tk9 1 (.map (some (w0.heap.size+1))) ?_ (hy:=by (intro w hSw; obtain ⟨sb,s8⟩:=(congrFun hSQ _).mpr hSw; obtain ⟨s0,s1,s2,s3,s4,s5,s6,s7⟩:=cells8 sb; go_simp))
      refine tk9 2 (.agg #[.int .i64 7,.int .i64 lo,.int .i64 hi,.int .i64 nn,.slice tao tq.length tcap,.string nm,.string ot,.float .f64 wt]) ?_ (hy:=by (intro w hSw; obtain ⟨sb,s8⟩:=(congrFun hSQ _).mpr hSw; obtain ⟨s0,s1,s2,s3,s4,s5,s6,s7⟩:=cells8 sb; go_simp))
      refine tk9 4 (.int .i64 (k:Int)) ?_
      refine rd9 3 fun K hK=>?_
      go_simp
      refine (Uh KP2).mono ?_
      rintro e W3 ⟨rfl,hb3⟩
      have hB3:=bthen hd2 hb3
      obtain ⟨es5,cl5,hu5,hni5⟩:=(Uh HUP2) W3 hB3
      have HNI5:=Hd hni5
      have HF3:=Hd ((congrFun hSP _).mpr ((Uh HS) _ hB3)).1
      have HF5:Hid (SQ (setBlock W3 (w0.heap.size+1) (.map es5 cl5))):=by
       have hne:=heap_lt (Uh HNI1).hx
       rw [hs1] at hne
       obtain ⟨sb,s8⟩:=(congrFun hSQ _).mpr (Uh HF3)
       rw [← hSQ]
       exact ⟨(setB_far _ _ (by omega)).trans sb,cell_far7 _ (by omega) s8⟩
      clear hni5
      refine hK.out _ _ ?_ (fun hHeld=>?_)
      ·exact Uh HF3
      clear hK K
      try simp only [Act.put,sa9,sb9,sc9]
      refine rd9 5 fun K hK=>?_
      go_simp
      refine hK.out _ _ ?_ (fun hHeld=>?_)
      ·exact Uh HF5
      clear hK K
      try simp only [Act.put,sa9,sb9,sc9]
      refine wpAnyH_done (by kernel_rfl) ?_ _
      obtain ⟨ub,u8⟩:=(congrFun hSQ _).mpr (Uh HF5)
      obtain ⟨u0,u1,u2,u3,u4,u5,u6,u7⟩:=cells8 ub
      have HNIW:=HNI5
      clear ub tb HF5 HF3 HFST KP2 hHeld HUP2 HUP HKN HLK HS HNIB KPO HWB t0 t1 t2 t3 t4 t5 t6 t7 t8 HNI5 hu5 hB3 hd2 hB2 hd1
      generalize setBlock W3 (w0.heap.size+1) (.map es5 cl5)=W5 at *
      have y0:W5.cell? ⟨w0.heap.size+1+1,1,none⟩=some (.slice oao oxs.length ocap):=cell_of (j:=1) (Uh HNIW).hx (by show 1<3; omega)
      have HROW:Hid (∀ o,(W5.alloc o).ownsRow w0.heap.size 59 8 (.slice oao oxs.length ocap) oxs.length (oxs.flatMap encR)):=fun o=>(Uh HNIW).ho.1.alloc o
      have HNEW:=Hd (new_cells W5 (⟨7,lo,hi,nn,tq,nm,ot,wt⟩:Rec) tao tcap (W5.heap.size) (by first | rfl | exact hs1))
      have HSTEP:=Hd (fun o v' w1 a b c=>(Uh HNIW).opens (o:=o) (v':=v') (w1:=w1) (Uh HSP) a b c)
      have hbsz:=(Uh HNIW).bel.size
      clear HNIW HSP HNI1
      go_wp2_with (at_builtin; refine wpList_append_own_at _ rfl (.tmp 45) (.tmp 47) 22 rfl w0.heap.size 59 i1 (.agg #[.int .i64 0,.int .i64 0,.int .i64 0,.int .i64 0,.slice none 0 0,.string ⟨#[]⟩,.string ⟨#[]⟩,.float .f64 0]) 8 96 Tryz.underlying22 hj hy0 hy1 hy2 rfl (by decide) _ _ _ rfl ((Uh HROW) _) ⟨W5.heap.size,0,none⟩ 1 1 (encR ((⟨7,lo,hi,nn,tq,nm,ot,wt⟩:Rec),tao,tq.length,tcap)) rfl rfl (Uh HNEW) (Uh HONE) (by unfold maxLen; omega) (by omega) (by simp; omega) ?_)
      intro v' w9 hrow9 hg9 _ hat9
      obtain ⟨hb9,hw9⟩:=(Uh HSTEP) _ v' w9 hrow9 hg9 (by first | exact hat9 | simpa using hat9)
      have HM2:Hid (Made w0 (w9.setCell ⟨w0.heap.size+1+1,1,none⟩ v') l (k+1)):=(Uh HNEXT) _ _ _ _ _ _ hw9 rfl (by simp [is6]) (by simp [is78])
      obtain ⟨ao9,cap9,rfl,_,_⟩:=hw9.ho.shape
      have z0:w9.cell? ⟨w0.heap.size+1+1,1,none⟩=some (.slice oao oxs.length ocap):=cell_of (j:=1) hb9 (by show 1<3; omega)
      have zf:=frozen_of (j:=1) hb9
      clear HROW HNEW HSTEP hrow9 hg9 hat9 hb9 hw9 HNEXT HONE y0
      generalize (oxs++[((⟨7,lo,hi,nn,tq,nm,ot,wt⟩:Rec),tao,tq.length,tcap)]).length=m9 at *
      go_wp2
      go_roundw
      case rel=>exact ⟨k+1,by go_num,by omega,HM2⟩
      case measure=>simp [intOf]; omega
     ·have hkn:=(Uh HKN) rfl
      have HNIW:=Hd ((Uh HNIB) W2 hB2)
      clear tb HUP HKN HLK HS HNIB KPO HWB hB2 hd1
      have y0:W2.cell? ⟨w0.heap.size+1+1,1,none⟩=some (.slice oao oxs.length ocap):=cell_of (j:=1) (Uh HNIW).hx (by show 1<3; omega)
      have HROW:Hid (∀ o,(W2.alloc o).ownsRow w0.heap.size 59 8 (.slice oao oxs.length ocap) oxs.length (oxs.flatMap encR)):=fun o=>(Uh HNIW).ho.1.alloc o
      have HNEW:=Hd (new_cells W2 (⟨7,lo,hi,nn,tq,nm,ot,wt⟩:Rec) tao tcap (W2.heap.size) (by first | rfl | exact hs1))
      have HSTEP:=Hd (fun o v' w1 a b c=>(Uh HNIW).opens (o:=o) (v':=v') (w1:=w1) (Uh HSP) a b c)
      have hbsz:=(Uh HNIW).bel.size
      clear HNIW HSP HNI1
      go_wp2_with (at_builtin; refine wpList_append_own_at _ rfl (.tmp 45) (.tmp 47) 22 rfl w0.heap.size 59 i1 (.agg #[.int .i64 0,.int .i64 0,.int .i64 0,.int .i64 0,.slice none 0 0,.string ⟨#[]⟩,.string ⟨#[]⟩,.float .f64 0]) 8 96 Tryz.underlying22 hj hy0 hy1 hy2 rfl (by decide) _ _ _ rfl ((Uh HROW) _) ⟨W2.heap.size,0,none⟩ 1 1 (encR ((⟨7,lo,hi,nn,tq,nm,ot,wt⟩:Rec),tao,tq.length,tcap)) rfl rfl (Uh HNEW) (Uh HONE) (by unfold maxLen; omega) (by omega) (by simp; omega) ?_)
      intro v' w9 hrow9 hg9 _ hat9
      obtain ⟨hb9,hw9⟩:=(Uh HSTEP) _ v' w9 hrow9 hg9 (by first | exact hat9 | simpa using hat9)
      have HM2:Hid (Made w0 (w9.setCell ⟨w0.heap.size+1+1,1,none⟩ v') l (k+1)):=(Uh HNEXT) _ _ _ _ _ _ hw9 hkn.symm (by simp [is6]) (by simp [is78])
      obtain ⟨ao9,cap9,rfl,_,_⟩:=hw9.ho.shape
      have z0:w9.cell? ⟨w0.heap.size+1+1,1,none⟩=some (.slice oao oxs.length ocap):=cell_of (j:=1) hb9 (by show 1<3; omega)
      have zf:=frozen_of (j:=1) hb9
      clear HROW HNEW HSTEP hrow9 hg9 hat9 hb9 hw9 HNEXT HONE y0
      generalize (oxs++[((⟨7,lo,hi,nn,tq,nm,ot,wt⟩:Rec),tao,tq.length,tcap)]).length=m9 at *
      go_wp2
      go_roundw
      case rel=>exact ⟨k+1,by go_num,by omega,HM2⟩
      case measure=>simp [intOf]; omega
    ·have q7:(r.kind==7)=false:=beq_eq_false_iff_ne.2 k7
     clear h7
     by_cases k8:r.kind=8
     ·have HNIW:=HNI1
      clear q6 q7
      obtain ⟨kd,lo,hi,nn,tq,nm,ot,wt⟩:=r
      dsimp only at *
      subst k8
      have y0:Q.cell? ⟨w0.heap.size+1+1,1,none⟩=some (.slice oao oxs.length ocap):=cell_of (j:=1) (Uh HNIW).hx (by show 1<3; omega)
      have HROW:Hid (∀ o,(Q.alloc o).ownsRow w0.heap.size 59 8 (.slice oao oxs.length ocap) oxs.length (oxs.flatMap encR)):=fun o=>(Uh HNIW).ho.1.alloc o
      have HNEW:=Hd (new_cells Q (⟨8,lo,hi,nn,tq,nm,ot,wt⟩:Rec) tao tcap (wr.heap.size+1) (by first | rfl | exact hs1))
      have HSTEP:=Hd (fun o v' w1 a b c=>(Uh HNIW).opens (o:=o) (v':=v') (w1:=w1) (Uh HSP) a b c)
      have hbsz:=(Uh HNIW).bel.size
      clear HNIW HSP HNI1 HBX
      subst hQ
      go_wp2_with (at_builtin; refine wpList_append_own_at _ rfl (.tmp 53) (.tmp 55) 22 rfl w0.heap.size 59 i1 (.agg #[.int .i64 0,.int .i64 0,.int .i64 0,.int .i64 0,.slice none 0 0,.string ⟨#[]⟩,.string ⟨#[]⟩,.float .f64 0]) 8 96 Tryz.underlying22 hj hy0 hy1 hy2 rfl (by decide) _ _ _ rfl ((Uh HROW) _) ⟨wr.heap.size+1,0,none⟩ 1 1 (encR ((⟨8,lo,hi,nn,tq,nm,ot,wt⟩:Rec),tao,tq.length,tcap)) rfl rfl (Uh HNEW) (Uh HONE) (by unfold maxLen; omega) (by omega) (by simp; omega) ?_)
      intro v' w9 hrow9 hg9 _ hat9
      obtain ⟨hb9,hw9⟩:=(Uh HSTEP) _ v' w9 hrow9 hg9 (by first | exact hat9 | simpa using hat9)
      have HM2:Hid (Made w0 (w9.setCell ⟨w0.heap.size+1+1,1,none⟩ v') l (k+1)):=(Uh HNEXT) _ _ _ _ _ _ hw9 (Cn.firstP_other (by simp)).symm (by simp [is6]) (by simp [is78])
      obtain ⟨ao9,cap9,rfl,_,_⟩:=hw9.ho.shape
      have z0:w9.cell? ⟨w0.heap.size+1+1,1,none⟩=some (.slice oao oxs.length ocap):=cell_of (j:=1) hb9 (by show 1<3; omega)
      have zf:=frozen_of (j:=1) hb9
      clear HROW HNEW HSTEP hrow9 hg9 hat9 hb9 hw9 HNEXT HONE y0
      generalize (oxs++[((⟨8,lo,hi,nn,tq,nm,ot,wt⟩:Rec),tao,tq.length,tcap)]).length=m9 at *
      go_wp2
      go_roundw
      case rel=>exact ⟨k+1,by go_num,by omega,HM2⟩
      case measure=>simp [intOf]; omega
     ·have q8:(r.kind==8)=false:=beq_eq_false_iff_ne.2 k8
      have HM2:Hid (Made w0 Q l (k+1)):=(Uh HNEXT) _ _ _ _ cxs oxs (Uh HNI1) (Cn.firstP_other (by omega)).symm (by simp [is6,k6]) (by simp [is78,k7,k8])
      clear HNEXT HNI1 HSP HONE HBX
      subst hQ
      go_wp2
      go_roundw
      case rel=>exact ⟨k+1,by go_num,by omega,HM2⟩
      case measure=>simp [intOf]; omega
  ·obtain rfl:k=l.length:=by omega
   obtain ⟨cv,ov,cxs,oxs,hni,e1,e2⟩:=Uh HMADE
   obtain ⟨hcl,hol⟩:=made_len e1 e2 hl
   rw [List.take_length] at hni e1 e2
   have K1:=Hd (sort_any w0 wr cv cxs hni.hc (by omega))
   obtain ⟨cao,ccap,rfl,_,_⟩:=hni.hc.shape
   obtain ⟨oao,ocap,rfl,_,_⟩:=hni.ho.shape
   have y0:wr.cell? ⟨w0.heap.size+1+1,0,none⟩=some (.slice cao cxs.length ccap):=cell_of (j:=0) hni.hx (by show 0<3; omega)
   have hfarc:=hni.far hni.hc
   have hclt:∀ g,(Value.slice cao cxs.length ccap).ownBlock=some g→g<wr.heap.size:=fun g hg=>(hni.hc.1.lt g hg).2
   have HFC:=Hd hfarc
   have HLT:=Hd hclt
   clear hfarc hclt
   have HFO:=Hd (hni.far hni.ho)
   have HNI:=Hd hni
   clear HMADE HFit HTake HTL HR7 HV HEND hni
   go_wp2_with fail
   refine (Uh K1).mono ?_
   rintro e w1 ⟨rfl,xs',hp1,hs1,hx1,hg1⟩
   have hni:=Uh HNI
   have k1:∀ g,g<wr.heap.size→(Value.slice cao cxs.length ccap).ownBlock≠some g→w1.heap[g]?=wr.heap[g]?:=fun g a b=>hg1.block g a (fun e=>b e.symm)
   have hx1':w1.heap[w0.heap.size+2]?=some (.cells #[.slice cao cxs.length ccap,.slice oao oxs.length ocap,.map (some (w0.heap.size+1))] 125 (0,0)):=by rw [k1 _ (heap_lt hni.hx) (fun e=>((Uh HFC) _ e).2.2 rfl)]; exact hni.hx
   have hr1':w1.heap[w0.heap.size]?=some (.cells #[.slice none 0 0,.slice none 0 0,.map none] 125 (0,0)):=by rw [k1 _ (heap_lt hni.hr) (fun e=>((Uh HFC) _ e).1 rfl)]; exact hni.hr
   obtain ⟨es,cl,hm,hmo⟩:=hni.hm
   have hm1':w1.heap[w0.heap.size+1]?=some (.map es cl):=by rw [k1 _ (heap_lt hm) (fun e=>((Uh HFC) _ e).2.1 rfl)]; exact hm
   have ho1:Rsh w0 w1 (.slice oao oxs.length ocap) oxs:=hni.ho.keep fun g hg=>k1 g (hni.ho.1.lt g hg).2 (fun e=>hni.ap g e hg)
   have hb1:Below w0.heap.size w0 w1:=hni.bel.trans ⟨hg1.os,hg1.tape,hg1.output,hg1.size,fun g hg=>k1 g (by have:=hni.bel.size; omega) (fun e=>by have:=(hni.hc.1.lt g e).1; omega)⟩
   have K2:=Hd (sort_any w0 w1 _ oxs ho1 (by omega))
   have y1:w1.cell? ⟨w0.heap.size+1+1,1,none⟩=some (.slice oao oxs.length ocap):=cell_of (j:=1) hx1' (by show 1<3; omega)
   have hap:=hni.ap
   have HX1:=Hd hx1
   have HP1:=Hd hp1
   have HSO1:=Hd hs1
   have HAP:=Hd hap
   have hsz1:=hg1.size
   clear K1 y0 hp1 hs1 hx1 hg1 k1 hm hni HNI hap
   go_wp2_with fail
   refine (Uh K2).mono ?_
   rintro e w2 ⟨rfl,ys',hp2,hs2,hx2,hg2⟩
   have k2:∀ g,g<w1.heap.size→(Value.slice oao oxs.length ocap).ownBlock≠some g→w2.heap[g]?=w1.heap[g]?:=fun g a b=>hg2.block g a (fun e=>b e.symm)
   have hx2':w2.heap[w0.heap.size+2]?=some (.cells #[.slice cao cxs.length ccap,.slice oao oxs.length ocap,.map (some (w0.heap.size+1))] 125 (0,0)):=by rw [k2 _ (heap_lt hx1') (fun e=>((Uh HFO) _ e).2.2 rfl)]; exact hx1'
   have hr2':w2.heap[w0.heap.size]?=some (.cells #[.slice none 0 0,.slice none 0 0,.map none] 125 (0,0)):=by rw [k2 _ (heap_lt hr1') (fun e=>((Uh HFO) _ e).1 rfl)]; exact hr1'
   have hm2':w2.heap[w0.heap.size+1]?=some (.map es cl):=by rw [k2 _ (heap_lt hm1') (fun e=>((Uh HFO) _ e).2.1 rfl)]; exact hm1'
   have hb2:Below w0.heap.size w0 w2:=hb1.trans ⟨hg2.os,hg2.tape,hg2.output,hg2.size,fun g hg=>k2 g (by have:=hb1.size; omega) (fun e=>by have:=(ho1.1.lt g e).1; omega)⟩
   have hcx:Rsx w0 w2 (.slice cao cxs.length ccap) xs':=(Uh HX1).keep hg2.size fun g hg=>k2 g (by have:=(Uh HLT) g hg; have:=hsz1; omega) (fun e=>(Uh HAP) g hg e)
   obtain ⟨z0,z1,z2⟩:=cells3 hx2'
   obtain ⟨r0,r1,r2⟩:=cells3 hr2'
   have f0:=frozen_of (j:=0) hr2'
   have f1:=frozen_of (j:=1) hr2'
   have f2:=frozen_of (j:=2) hr2'
   have HX2:=Hd hx2
   have HCX:=Hd hcx
   have HP2:=Hd hp2
   have HSO2:=Hd hs2
   have HB2:=Hd hb2
   have HR2:=Hd hr2'
   have HM2:=Hd hm2'
   clear K2 y1 k2 hx1' hr1' hm1' hg2 HX1 HAP ho1 hb1 hx2 hcx hp2 hs2 hb2 hr2' hm2' hx2'
   go_wp2
   obtain ⟨w9,h9,g3,hk9,hs9,hb9⟩:=set3 (.slice cao cxs.length ccap) (.slice oao oxs.length ocap) (.map (some (w0.heap.size+1))) (Uh HR2)
   rw [h9]
   obtain ⟨c0,c1,c2⟩:=cells3 g3
   replace hb9:=hb9 _ _ (Nat.le_refl _) (Uh HB2)
   have a1:=(Uh HCX).keep hs9 (fun g hg=>hk9 g ((Uh HFC) g hg).1)
   have a2:=(Uh HX2).keep hs9 (fun g hg=>hk9 g ((Uh HFO) g hg).1)
   have l1:xs'.length≤1000000000:=by have:=(Uh HP1).length_eq; omega
   have l2:ys'.length≤1000000000:=by have:=(Uh HP2).length_eq; omega
   obtain ⟨o1,m1⟩:=Cn.sorted_ordered (f:=2) (.inl rfl) (cs:=xs'.map (·.1)) (p:=is6) (Uh HOK) (fun r=>⟨fun h=>by rw [of_decide_eq_true h]; decide,fun h=>decide_eq_true (Cn.fam_two h)⟩) (e1 ▸ (Uh HP1).map _) (List.pairwise_map.2 (Uh HSO1))
   obtain ⟨o2,m2⟩:=Cn.sorted_ordered (f:=3) (.inr rfl) (cs:=ys'.map (·.1)) (p:=is78) (Uh HOK) (fun r=>⟨fun h=>by rcases of_decide_eq_true h with e | e <;> (rw [e]; decide),fun h=>decide_eq_true (Cn.fam_three' h)⟩) (e2 ▸ (Uh HP2).map _) (List.pairwise_map.2 (Uh HSO2))
   have HF:IndexB w0 l (.returned (.agg #[.slice cao cxs.length ccap,.slice oao oxs.length ocap,.map (some (w0.heap.size+1))])) w9:=⟨_,_,_,_,rfl,⟨a1.rcs hb9 l1,a2.rcs hb9 l2,o1,o2,m1,m2,Uh HOK⟩,⟨es,cl,by rw [hk9 _ (by omega)]; exact Uh HM2,hmo⟩,hb9⟩
   clear a1 a2 o1 o2 m1 m2 g3 hk9 hb9 hs9 h9
   refine bodyPost_ret (show _=Result.ok (.agg #[.slice cao cxs.length ccap,.slice oao oxs.length ocap,.map (some (w0.heap.size+1))]) w9 by simp [results,Tryz.results75,go_sem,c0,c1,c2]) rfl ?_
   exact HF
open Ti
namespace Cn
theorem famOf_step {f} {rs:List Rec} {k} (hk:k<rs.length):famOf f (rs.take (k+1))=famOf f (rs.take k)++(if fam (rs.getD k none).kind=f then [rs.getD k none] else []):=by
 have e:rs.take (k+1)=rs.take k++[rs.getD k none]:=by simp_all
 rw [e]
 unfold famOf
 rw [List.filter_append]
 congr 1
 generalize rs.getD k none=x
 by_cases h:fam x.kind=f
 ·grind
 ·grind
end Cn
def FamB (w:World) (rs:List Rec) (f:Int) (e:Ending) (w':World):Prop:=∃ v xs,e=.returned v∧xs.map (·.1)=Cn.famOf f rs∧Rsh w w' v xs∧Below w.heap.size w w'
theorem Rsh.lowerB {w0 w w' v} {xs:List Sp} (h:Rsh w0 w v xs) (hb:Below w.heap.size w w'):Rsh w0 w' v xs:=⟨row_below3 h.1 hb,h.2⟩
set_option maxRecDepth 8000 in
set_option maxHeartbeats 4000000 in
theorem familyOf_any v rs kind w (hg:Glob w) (hv:Rcs w v rs) (hk:I64 kind):Calls Tryz.prog 123 #[v,.int .i64 kind] w (FamB w rs (Cn.fam kind)):=by
 obtain ⟨i1,hj,hy0,hy1,hy2⟩:=info_parts Tryz.info59
 have hlen:=hv.1
 have KF:Hid (∀ W c,Below w.heap.size w W→I64 c→Calls Tryz.prog 122 #[.int .i64 c] W (IntB W (Cn.fam c))):=fun W c h hc=>family_any c W (hg.on h) hc
 have HREC:Hid (∀ k,k<rs.length→∃ b off cap,v=.slice (some ⟨b,off,none⟩) rs.length cap∧RecAt w b (off+k * 8) (rs.getD k Cn.none)∧RecFit (rs.getD k Cn.none)):=fun k hk=>by
  obtain ⟨b,off,cap,he,_,_,hc⟩:=hv.place (by omega)
  exact ⟨b,off,cap,he,hc k hk,hv.fit hk⟩
 have HST:Hid (∀ k,k<rs.length→Cn.famOf (Cn.fam kind) (rs.take (k+1))=Cn.famOf (Cn.fam kind) (rs.take k)++(if Cn.fam (rs.getD k Cn.none).kind=Cn.fam kind then [rs.getD k Cn.none] else [])):=fun k hk=>Cn.famOf_step hk
 obtain ⟨ao,cap,hve,_,_⟩:=hv.shape
 obtain ⟨kk1,kk2⟩:=hk
 have KF2:Hid (∀ W,Below w.heap.size w W→Calls Tryz.prog 122 #[.int .i64 kind] W (IntB W (Cn.fam kind))):=fun W h=>(Uh KF) W kind h ⟨kk1,kk2⟩
 subst hve
 generalize Cn.fam kind=f at *
 go_enter Tryz.func123,Tryz.ntmps123
 go_wp2
 go_loopw [5,7,10] (fun ov _ iv wr=>∃ k:Nat,iv=.int .i64 k∧k≤rs.length∧∃ xs,xs.map (·.1)=Cn.famOf f (rs.take k)∧xs.length≤k∧Rsh w wr ov xs∧Below w.heap.size w wr) (fun _ _ iv _=>rs.length - (intOf iv).toNat)
 case atStart=>exact ⟨0,rfl,by omega,[],rfl,by simp,⟨World.ownsRow_nil _ _ _ _,fun x hx=>by cases hx⟩,Below.refl _ _⟩
 case round =>
  obtain ⟨k,rfl,hk,xs,hxs,hxl,hrsh,hbel⟩:=hrel
  by_cases hlt:k<rs.length
  ·obtain ⟨b,off,cap',he,hA,hfit⟩:=(Uh HREC) k hlt
   obtain ⟨e1,e2,e3⟩:=Value.slice.inj he
   subst e1
   have HNX:=Hd ((Uh HST) k hlt)
   obtain ⟨y0,y1,y2,y3,⟨va,y4,ska⟩,y5,y6,y7⟩:=hA
   obtain ⟨tao,tcap,rfl,_,_⟩:=ska.shape
   have hold:∀ j u,w.cell? ⟨b,off+k * 8+j,none⟩=some u→wr.cell? ⟨b,off+k * 8+j,none⟩=some u:=fun j u h=>by rw [hbel.cell (lt_of_cell? h)]; exact h
   have x0:wr.cell? ⟨b,off+k * 8,none⟩=_:=hold 0 _ y0
   have x1:=hold 1 _ y1
   have x2:=hold 2 _ y2
   have x3:=hold 3 _ y3
   have x4:=hold 4 _ y4
   have x5:=hold 5 _ y5
   have x6:=hold 6 _ y6
   have x7:=hold 7 _ y7
   have HSP:Hid (Sk .i32 w (sval (rs.getD k Cn.none,tao,(rs.getD k Cn.none).to.length,tcap)) (rs.getD k Cn.none).to∧RecFit (rs.getD k Cn.none)):=⟨ska,hfit⟩
   have hki:=hfit.kind
   generalize rs.getD k Cn.none=r at *
   have hfl:∀ W a m,(store a (.float .f64 r.wt) m).run Tryz.prog W=stored Tryz.prog W a (.float .f64 r.wt) m:=fun W a m=>run_store Tryz.prog W a _ m rfl
   obtain ⟨W1,hW1,hbx,hb1⟩:=box_one wr r.kind r.lo r.hi r.n (.slice tao r.to.length tcap) r.name r.other r.wt
   have K1:=Hd ((Uh KF) W1 r.kind (bthen hbel hb1) hki)
   have HBX:=Hd hbx
   obtain ⟨z0,z1,z2,z3,z4,z5,z6,z7⟩:=hbx
   have HB1:=Hd (bthen hbel hb1)
   have HR1:=Hd (hrsh.lowerB hb1)
   have HNEW:Hid (∀ W:World,∀ j u,(encR (r,tao,r.to.length,tcap))[j]?=some u→(W.alloc (.cells #[.int .i64 r.kind,.int .i64 r.lo,.int .i64 r.hi,.int .i64 r.n,.slice tao r.to.length tcap,.string r.name,.string r.other,.float .f64 r.wt] 59)).cell? ((⟨W.heap.size,0,none⟩:Addr).add j)=some u):=fun W=>new_cells W r tao tcap W.heap.size rfl
   have HONE:=Hd (encR_one (r,tao,r.to.length,tcap))
   go_wp2_with fail
   refine (Uh K1).mono ?_
   rintro e2 w2 ⟨rfl,hb2⟩
   have HB2:=Hd (bthen (Uh HB1) hb2)
   have HR2:=Hd ((Uh HR1).lowerB hb2)
   have HBX2:=Hd ((Uh HBX).keep hb2)
   have K2:=Hd ((Uh KF2) w2 (Uh HB2))
   go_wp2_with fail
   refine (Uh K2).mono ?_
   rintro e3 w3 ⟨rfl,hb3⟩
   have hB3:=bthen (Uh HB2) hb3
   have hR3:=(Uh HR2).lowerB hb3
   obtain ⟨z0,z1,z2,z3,z4,z5,z6,z7⟩:=(Uh HBX2).keep hb3
   generalize Cn.fam r.kind=fk at *
   by_cases hf:fk=f
   ·subst hf
    have HXS:Hid ((xs++[(r,tao,r.to.length,tcap)]).map (·.1)=Cn.famOf fk (rs.take (k+1))):=by grind
    have HSTEP:Hid (∀ v' w9 o,w9.ownsRow w.heap.size 59 8 v' (xs.length+1) (xs.flatMap encR++encR (r,tao,r.to.length,tcap))→(w3.alloc o).grownBy w9 u5.ownBlock→Rsh w w9 v' (xs++[(r,tao,r.to.length,tcap)])∧Below w.heap.size w w9):=fun v' w9 o hr9 hg9=>by
     have ha:=hB3.alloc hB3.size o
     refine ⟨⟨by simpa using hr9,fun y hy=>?_⟩,ha.grown hg9 ha.size (fun g hg=>(hR3.1.lt g hg).1)⟩
     rcases List.mem_append.1 hy with hy | hy
     ·exact hR3.2 y hy
     ·simp only [List.mem_singleton] at hy
      subst hy
      exact Uh HSP
    have HROW:Hid (∀ o,(w3.alloc o).ownsRow w.heap.size 59 8 u5 xs.length (xs.flatMap encR)):=fun o=>hR3.1.alloc o
    have hsz3:=hB3.size
    have HNW:=Hd ((Uh HNEW) w3)
    go_wp2_with (at_builtin; refine wpList_append_own _ rfl (.tmp 20) (.tmp 22) 22 rfl w.heap.size 59 i1 (.agg #[.int .i64 0,.int .i64 0,.int .i64 0,.int .i64 0,.slice none 0 0,.string ⟨#[]⟩,.string ⟨#[]⟩,.float .f64 0]) 8 96 Tryz.underlying22 hj hy0 hy1 hy2 rfl (by decide) _ _ _ rfl ((Uh HROW) _) ⟨w3.heap.size,0,none⟩ 1 1 (encR (r,tao,r.to.length,tcap)) rfl rfl (Uh HNW) (Uh HONE) (by unfold maxLen; omega) (by omega) (by simp; omega) ?_)
    intro v' w9 hr9 hg9 _
    obtain ⟨hR9,hB9⟩:=(Uh HSTEP) v' w9 _ hr9 hg9
    go_wp2
    go_roundw
    case rel=>exact ⟨k+1,by go_num,by omega,_,Uh HXS,by simp; omega,hR9,hB9⟩
    case measure=>simp [intOf]; omega
   ·have df:(fk==f)=false:=beq_eq_false_iff_ne.2 hf
    have HXS:Hid (xs.map (·.1)=Cn.famOf f (rs.take (k+1))):=by grind
    go_wp2
    go_roundw
    case rel=>exact ⟨k+1,by go_num,by omega,xs,Uh HXS,by omega,hR3,hB3⟩
    case measure=>simp [intOf]; omega
  ·obtain rfl:k=rs.length:=by omega
   rw [List.take_of_length_le (Nat.le_refl _)] at hxs
   have HF:Hid (FamB w rs f (.returned u5) wr):=⟨u5,xs,rfl,hxs,hrsh,hbel⟩
   go_wp2
   go_ret
   exact Uh HF
end Go.Proofs.YtihhhjodonkkcaaGreatDoor
namespace Go.Proofs.YtihhhjodonkkcaaGreatDoor.Cn
def bad7 (l:List Rec) (i:Nat) (r:Rec):Bool:=decide ((firstP l (r.to.getD 0 0) (r.to.getD 1 0)).getD 0<(i:Int)) || wpair l r.lo (r.to.getD 0 0) (r.to.getD 1 0)
theorem record_T l i r:record l i r=if fam r.kind≠2∧fam r.kind≠3 then 0
 else if covers r 0 127 then 70
 else if touches r=true then 71
 else if r.kind=7∧makes (r.to.getD 0 0) (r.to.getD 1 0)=true then 71
 else if fam r.kind=2 then 0
 else if (full l r.lo).2≠0 then (full l r.lo).2
 else if fallsA l (full l r.lo).1 then 75
 else if r.kind=7∧pair l i r=false then 74
 else 0:=rfl
theorem record_none {l i r} (h6:r.kind≠6) (h7:r.kind≠7) (h8:r.kind≠8):record l i r=0:=by
 rw [record_T]
 rw [if_pos ⟨fun h=>h6 (fam_two h),fun h=>by rcases fam_three' h with e | e <;> contradiction⟩]
theorem record_low {l i r} (hr:right r=0) (hk:r.kind=6∨r.kind=7∨r.kind=8) (hl:r.lo<128):record l i r=70:=by
 have hf:fam r.kind=2∨fam r.kind=3:=by rcases hk with e | e | e <;> (rw [e]; decide)
 have h15:r.kind≠15:=by omega
 have hs:=right_span hr h15
 rw [record_T]
 rw [if_neg (fun h=>by omega),if_pos (show covers r 0 127=true from decide_eq_true ⟨by omega,by omega⟩)]
theorem record_hangul {l i r} (hk:r.kind=6∨r.kind=7∨r.kind=8) (hl:¬ r.lo<128) (ht:(touches r || (decide (r.kind=7) && makes (r.to.getD 0 0) (r.to.getD 1 0)))=true):record l i r=71:=by
 have hf:fam r.kind=2∨fam r.kind=3:=by rcases hk with e | e | e <;> (rw [e]; decide)
 rw [record_T]
 rw [if_neg (fun h=>by omega),if_neg (show ¬ covers r 0 127=true from fun h=>by have:=of_decide_eq_true h; omega)]
 by_cases h1:touches r=true
 ·rw [if_pos h1]
 ·grind
theorem record_rest {l i r} (hk:r.kind=6∨r.kind=7∨r.kind=8) (hl:¬ r.lo<128) (ht:(touches r || (decide (r.kind=7) && makes (r.to.getD 0 0) (r.to.getD 1 0)))=false) :
  record l i r=if r.kind=6 then 0 else if wfull l r.lo≠0 then wfull l r.lo else if r.kind=7∧pair l i r=false then 74 else 0:=by
 have hf:fam r.kind=2∨fam r.kind=3:=by rcases hk with e | e | e <;> (rw [e]; decide)
 rw [Bool.or_eq_false_iff] at ht
 rw [record_T]
 rw [if_neg (fun h=>by omega),if_neg (show ¬ covers r 0 127=true from fun h=>by have:=of_decide_eq_true h; omega),if_neg (show ¬ touches r=true by rw [ht.1]; simp)]
 rw [if_neg (fun h=>by
  have h2:=ht.2
  rw [Bool.and_eq_false_iff] at h2
  rcases h2 with h2 | h2
  ·grind
  ·have h3:makes (r.to.getD 0 0) (r.to.getD 1 0)=true:=h.2
   rw [h2] at h3; cases h3)]
 rcases hk with e | e | e
 ·rw [e,if_pos (by decide:fam 6=2),if_pos rfl]
 ·rw [if_neg (show ¬ fam r.kind=2 by rw [e]; decide),if_neg (show ¬ r.kind=6 by omega)]
  unfold wfull
  by_cases h1:(full l r.lo).2≠0
  ·omega
  ·grind
 ·rw [if_neg (show ¬ fam r.kind=2 by rw [e]; decide),if_neg (show ¬ r.kind=6 by omega)]
  unfold wfull
  by_cases h1:(full l r.lo).2≠0
  ·rw [if_pos h1,if_pos h1,if_pos h1]
  ·grind
theorem pair_bad {l i} (hi:i<l.length) (h7:(l.getD i none).kind=7):pair l i (l.getD i none)=!bad7 l i (l.getD i none):=by
 rw [pair_w]
 unfold bad7
 have h:=firstP_lt hi h7
 cases hA:(l.take i).any fun k=>decide (k.kind=7∧k.to.getD 0 0=(l.getD i none).to.getD 0 0∧k.to.getD 1 0=(l.getD i none).to.getD 1 0)
 ·grind
 ·grind
end Go.Proofs.YtihhhjodonkkcaaGreatDoor.Cn
namespace Go.Proofs.YtihhhjodonkkcaaGreatDoor
open Go.RowKit
set_option maxRecDepth 8000 in
set_option maxHeartbeats 4000000 in
theorem wrongNone cao oao tao (cl cc ol oc tl tc mr i:Nat) kd lo hi nn tz nm ot wt w (k6:kd≠6) (k7:kd≠7) (k8:kd≠8) :
  Calls Tryz.prog 76 #[xV (.slice cao cl cc) (.slice oao ol oc) (.map (some mr)),.int .i64 (i:Int),recV ⟨kd,lo,hi,nn,tz,nm,ot,wt⟩ (.slice tao tl tc)] w (IntB w 0):=by
 have q6:(kd==6)=false:=beq_eq_false_iff_ne.2 k6
 have q6':(kd != 6)=true:=by simp [k6]
 have q7:(kd==7)=false:=beq_eq_false_iff_ne.2 k7
 have q8:(kd==8)=false:=beq_eq_false_iff_ne.2 k8
 have HF:IntB w 0 (.returned (.int .i64 0)) ((w.alloc (.cells #[.slice cao cl cc,.slice oao ol oc,.map (some mr)] 125)).alloc (.cells #[.int .i64 kd,.int .i64 lo,.int .i64 hi,.int .i64 nn,.slice tao tl tc,.string nm,.string ot,.float .f64 wt] 59)):=⟨rfl,((Below.refl _ _).alloc (Nat.le_refl _) _).alloc (by simp) _⟩
 unfold xV recV
 go_enter Tryz.func76,Tryz.ntmps76
 go_wp2
 go_ret
 exact HF
set_option maxRecDepth 8000 in
set_option maxHeartbeats 4000000 in
theorem wrongLow cao oao tao (cl cc ol oc tl tc mr i:Nat) kd lo hi nn tz nm ot wt w (hk:kd=6∨kd=7∨kd=8) (hl:lo<128) :
  Calls Tryz.prog 76 #[xV (.slice cao cl cc) (.slice oao ol oc) (.map (some mr)),.int .i64 (i:Int),recV ⟨kd,lo,hi,nn,tz,nm,ot,wt⟩ (.slice tao tl tc)] w (IntB w 70):=by
 unfold xV recV
 rcases hk with rfl | rfl | rfl
 all_goals
  have HF:∀ W,Below w.heap.size w W→IntB w 70 (.returned (.int .i64 70)) W:=fun W h=>⟨rfl,h⟩
  go_enter Tryz.func76,Tryz.ntmps76
  go_wp2
  go_ret
  exact HF _ (((Below.refl _ _).alloc (Nat.le_refl _) _).alloc (by simp) _)
end Go.Proofs.YtihhhjodonkkcaaGreatDoor
