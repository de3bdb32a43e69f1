/- TiTrE4 TiTrH4 -/
import Derived.Test.YtihhhjodonkkcaaGreatDoorX16
import Derived.Deep.AppendLies
import Derived.Deep.DrawnRows
import Derived.Deep.OwnRows
import Derived.Deep.RegionHeld3
import Derived.Deep.RegionLaw
import Derived.Great.BuildSlice
namespace Go.Proofs.YtihhhjodonkkcaaGreatDoor.Ti
open Go.RowKit Go.Maps
set_option linter.unusedSimpArgs false
theorem zeroU16 w:(zeroValue 114).run Tryz.prog w=.ok (.int .u16 0) w:=(zero_of_info (n:=1) (by kernel_rfl)).1 w
theorem store_newB (w:World) zs (h:zs.length=64):(storeCells ⟨w.heap.size,0,none⟩ (zs.map (Value.int .u16)) 0).run Tryz.prog (w.alloc (.cells z64 116))=.ok () (w.alloc (.cells (arrA zs) 116)):=by
 have h1:=run_storeCells_new (P:=Tryz.prog) w 116 z64 (arrA zs) (by rw [arrA_size,h]; exact infoBk) (by rw [arrA_size,h]; rfl) (arrA_one zs)
 simpa [arrA] using h1
theorem run_build1 t e (hu:Tryz.prog.underlying t=some (.slice e)) (hi:(Tryz.prog.info? e).map (fun i=>(i.size,i.zero.map (·.cells.size)))=some (64,some 64)) w (zs:List Int) (h:zs.length=64) :
  (Instr.buildSlice t 1 #[(0,.agg (zs.map (Value.int .u16)).toArray)]).run Tryz.prog w=.ok (.slice (some ⟨w.heap.size,0,none⟩) 1 1) (w.alloc (.cells (zs.map (Value.int .u16)).toArray e)):=by
 obtain ⟨ie,hie,h1⟩:=Option.map_eq_some_iff.1 hi
 simp only [Prod.mk.injEq] at h1
 obtain ⟨h1,h2⟩:=h1
 obtain ⟨z,hz,hzs⟩:=Option.map_eq_some_iff.1 h2
 refine run_buildSlice w t e 1 _ _ ie z hu hie hz (by rw [h1]; decide) (by rw [h1]; decide) ?_
 rw [h1]
 have:=Great.fill_whole (s:=64) (by decide) [Value.agg (zs.map (Value.int .u16)).toArray] ((Array.range (1 * 64)).map (z.cells[· % z.cells.size]!)) (fun v hv=>by simp at hv; subst hv; simp [Value.cells,h]) (by simp)
 simpa [Value.cells] using this
theorem fold_whole C (hC:C.size=64) (zs:List Int) (h:zs.length=64):List.foldl (fun (cs:Array Value) (x:Value × Nat)=>cs.setIfInBounds x.2 x.1) C ((zs.map (Value.int .u16)).zipIdx)=(zs.map (Value.int .u16)).toArray:=by
 have h1:=Great.foldl_set 0 (zs.map (Value.int .u16)) 0 C
 simp only [Nat.zero_add] at h1
 apply Array.ext_getElem?
 intro k
 rw [h1.2 k]
 by_cases hk:k<64
 ·rw [if_pos (by simp; omega)]; simp
 ·grind
theorem infoB2:(Tryz.prog.info? 116).map (fun i=>(i.size,i.zero.map (·.cells.size)))=some (64,some 64):=by kernel_rfl
theorem infoB3:∃ i z,Tryz.prog.info? 116=some i∧i.zero=some z∧i.size=64∧i.bytes=128∧z.cells.size=64:=by
 have h:(Tryz.prog.info? 116).map (fun i=>(i.size,i.bytes,i.zero.map (·.cells.size)))=some (64,128,some 64):=by kernel_rfl
 obtain ⟨i,hi,h1⟩:=Option.map_eq_some_iff.1 h
 simp only [Prod.mk.injEq] at h1
 obtain ⟨h1,h2,h3⟩:=h1
 obtain ⟨z,hz,hzs⟩:=Option.map_eq_some_iff.1 h3
 exact ⟨i,z,hi,hz,h1,h2,hzs⟩
def Ix (w:World) (g:Nat) (xs:List Int):Prop:=xs.length=17408∧w.heap[g]?=some (.cells (arrA xs) 114 (0,0))
theorem Ix.lt {w g xs} (h:Ix w g xs):g<w.heap.size:=(Array.getElem?_eq_some_iff.1 h.2).1
theorem Ix.cell {w g xs} (h:Ix w g xs) {i} (hi:i<17408):w.cell? ⟨g,i,none⟩=some (.int .u16 (xs.getD i 0)):=by
 have hl:=h.1
 rw [cell_of_row _ _ _ _ _ _ h.2]
 simp [arrA,List.getD,show i<xs.length by omega]
theorem Ix.frozen {w g xs} (h:Ix w g xs) i:w.frozen? ⟨g,i,none⟩=false:=frozen_of_row _ _ _ _ _ h.2
theorem Ix.set {w g xs} (h:Ix w g xs) i v:Ix (w.setCell ⟨g,i,none⟩ (.int .u16 v)) g (xs.set i v):=by
 refine ⟨by simp [h.1],?_⟩
 rw [heap_setCell_same w g i _ _ _ h.2]
 simp [arrA,List.map_set]
def Tb (w:World) (g gi:Nat) (bv:Value) (d:Int):Prop:=w.heap[g]?=some (.cells #[.slice (some ⟨gi,0,none⟩) 17408 17408,bv,.int .i64 d] 113 (0,0))
theorem Tb.lt {w g gi bv d} (h:Tb w g gi bv d):g<w.heap.size:=(Array.getElem?_eq_some_iff.1 h).1
theorem Tb.cells {w g gi bv d} (h:Tb w g gi bv d):w.cell? ⟨g,0,none⟩=some (.slice (some ⟨gi,0,none⟩) 17408 17408)∧w.cell? ⟨g,1,none⟩=some bv∧w.cell? ⟨g,2,none⟩=some (.int .i64 d) :=
 ⟨by rw [cell_of_row _ _ _ _ _ _ h]; rfl,by rw [cell_of_row _ _ _ _ _ _ h]; rfl,by rw [cell_of_row _ _ _ _ _ _ h]; rfl⟩
theorem Tb.frozen {w g gi bv d} (h:Tb w g gi bv d) i:w.frozen? ⟨g,i,none⟩=false:=frozen_of_row _ _ _ _ _ h
theorem Tb.set {w g gi bv d} (h:Tb w g gi bv d) bv':Tb (w.setCell ⟨g,1,none⟩ bv') g gi bv' d:=by
 unfold Tb at h ⊢
 rw [heap_setCell_same w g 1 _ _ _ h]; rfl
structure Keeps (w w':World) (row:Option Nat):Prop where
 block:∀ k,k<w.heap.size→some k≠row→w'.heap[k]?=w.heap[k]?
theorem Keeps.of_below {w w'} (h:Below w.heap.size w w') row:Keeps w w' row:=⟨fun k hk _=>h.block k hk⟩
theorem Keeps.of_grown {w w' row} (h:w.grownBy w' row):Keeps w w' row:=⟨h.block⟩
theorem Keeps.of_set w a v:Keeps w (w.setCell a v) (some a.block):=⟨fun k _ hne=>heap_setCell_other w a k v (fun e=>hne (by rw [e]))⟩
theorem Ix.keep {w w' g xs row} (h:Ix w g xs) (hk:Keeps w w' row) (hne:some g≠row):Ix w' g xs:=⟨h.1,by rw [hk.block g h.lt hne]; exact h.2⟩
theorem Tb.keep {w w' g gi bv d} {row} (h:Tb w g gi bv d) (hk:Keeps w w' row) (hne:some g≠row):Tb w' g gi bv d:=by
 have hl:=h.lt
 unfold Tb at h ⊢
 rw [hk.block g hl hne]; exact h
theorem Bk.keep {w w' g zs row} (h:Bk w g zs) (hk:Keeps w w' row) (hne:some g≠row):Bk w' g zs:=by
 have hl:=h.lt
 unfold Bk at h ⊢
 rw [hk.block g hl hne]; exact h
theorem Ob.keep {e w w' B v} {bs row} (h:Ob e w B v bs) (hk:Keeps w w' row) (hne:∀ k,row=some k→k<B):Ob e w' B v bs:=by
 refine ⟨h.1,?_⟩
 obtain ⟨h1,h2 | ⟨g,cap,cur,hv,hg,hh,r⟩⟩:=h.2
 ·exact ⟨h1,.inl h2⟩
 ·refine ⟨h1,.inr ⟨g,cap,cur,hv,hg,?_,r⟩⟩
  rw [hk.block g (Array.getElem?_eq_some_iff.1 hh).1 ?_]
  ·exact hh
  ·grind
theorem map_keep {w w' b n} {D:DataW Unit} {row} (h:w.ownsMap Tryz.prog 116 (plainElem Tryz.prog 114) b n D) (hk:Keeps w w' row) (hne:some b≠row):w'.ownsMap Tryz.prog 116 (plainElem Tryz.prog 114) b n D:=by
 have hl:=h.lt
 obtain ⟨es,clock,hb,r⟩:=h
 exact ⟨es,clock,by rw [hk.block b hl hne]; exact hb,r⟩
theorem below_grown {B w w1 w2 row} (h:Below B w w1) (hg:w1.grownBy w2 row) (hB:B≤w1.heap.size) (hr:∀ k,row=some k→B≤k):Below B w w2:=h.grown hg hB hr
def CompPost (w:World) (rs:List Tri.Rg) (d:Int) (e:Ending) (w':World):Prop:=∃ a,e=.returned (.pointer (some a))∧T4 w' w.heap.size (.pointer (some a)) rs d∧Below w.heap.size w w'
def bsAt (f:Int→Int) (p:Nat):List (List Int):=Tri.blkA [] ((Tri.pcs f).take p)
theorem pcs_at f p (hp:p<17408):(Tri.pcs f).getD p []=Tri.blk f p:=by
 simp [Tri.pcs,List.getD,hp]
theorem bsAt_end f:bsAt f 17408=Tri.bls f:=by
 unfold bsAt Tri.bls
 rw [List.take_of_length_le (by rw [Tri.pcs_len]; omega)]
theorem bsAt_next f p (hp:p<17408):bsAt f (p+1)=Tri.push (bsAt f p) (Tri.blk f p):=by
 unfold bsAt
 rw [Tri.blkA_next _ _ _ (by rw [Tri.pcs_len]; exact hp),pcs_at f p hp]
theorem idx_bs f p (hp:p<17408):(Tri.idx f).getD p 0=(bsAt f p).idxOf (Tri.blk f p):=by
 rw [Tri.idx,Tri.idxA_at _ _ _ (by rw [Tri.pcs_len]; exact hp),pcs_at f p hp]; rfl
theorem bsAt_len f p:(bsAt f p).length≤p:=by
 have:=(Tri.blkA_len [] ((Tri.pcs f).take p)).2
 rw [List.length_take] at this
 unfold bsAt
 simp only [List.length_nil] at this
 omega
theorem bsAt_nodup f p:(bsAt f p).Nodup:=Tri.blkA_nodup List.nodup_nil
theorem bsAt_good {f} (h:∀ c,0≤f c∧f c≤65535) p:AllGood (bsAt f p):=by
 intro b hb
 rcases Tri.blkA_sub hb with h1 | h1
 ·cases h1
 ·have h2:=List.mem_of_mem_take h1
  rw [Tri.pcs,List.mem_map] at h2
  obtain ⟨q,_,rfl⟩:=h2
  exact blk_good h q
theorem step_in {f p} (hp:p<17408) (hm:Tri.blk f p∈bsAt f p):bsAt f (p+1)=bsAt f p∧(Tri.idx f).getD p 0=(bsAt f p).idxOf (Tri.blk f p)∧(bsAt f p).idxOf (Tri.blk f p)<(bsAt f p).length :=
 ⟨by rw [bsAt_next f p hp,Tri.push_same hm],idx_bs f p hp,List.idxOf_lt_length_iff.2 hm⟩
theorem step_new {f p} (hp:p<17408) (hm:Tri.blk f p ∉ bsAt f p):bsAt f (p+1)=bsAt f p++[Tri.blk f p]∧(Tri.idx f).getD p 0=(bsAt f p).length:=by
 refine ⟨by rw [bsAt_next f p hp]; unfold Tri.push; rw [if_neg hm],?_⟩
 rw [idx_bs f p hp]
 have h1:¬ (bsAt f p).idxOf (Tri.blk f p)<(bsAt f p).length:=fun h2=>hm (List.idxOf_lt_length_iff.1 h2)
 have h2:(bsAt f p).idxOf (Tri.blk f p)≤(bsAt f p).length:=List.idxOf_le_length
 omega
theorem made_ix n:madeCells #[.int .u16 0] n=arrA (List.replicate n 0):=by
 apply Array.ext'
 rw [toList_madeCells_one]
 simp [arrA]
theorem start4 w d w3 (h:w3=((w.alloc (.cells (madeCells #[.int .u16 0] 17408) 114)).alloc (.cells #[.slice (some ⟨w.heap.size,0,none⟩) 17408 17408,.slice none 0 0,.int .i64 d] 113)).alloc (.map #[] 0)) :
  Below w.heap.size w w3∧Ix w3 w.heap.size (List.replicate 17408 0)∧Tb w3 (w.heap.size+1) w.heap.size (.slice none 0 0) d∧w3.ownsMap Tryz.prog 116 (plainElem Tryz.prog 114) (w.heap.size+1+1) 0 (dat []):=by
 subst h
 refine ⟨(((Below.refl _ w).alloc (Nat.le_refl _) _).alloc (by simp) _).alloc (by simp; omega) _,⟨List.length_replicate,?_⟩,?_,?_⟩
 ·rw [Below.heap_alloc _ _ _ (by simp; omega),Below.heap_alloc _ _ _ (by simp),heap_alloc_last,made_ix]
 ·unfold Tb
  rw [Below.heap_alloc _ _ _ (by simp)]
  have:=heap_alloc_last (w.alloc (.cells (madeCells #[.int .u16 0] 17408) 114)) (.cells #[.slice (some ⟨w.heap.size,0,none⟩) 17408 17408,.slice none 0 0,.int .i64 d] 113)
  rwa [show (w.alloc (.cells (madeCells #[.int .u16 0] 17408) 114)).heap.size=w.heap.size+1 by simp] at this
 ·have:=World.ownsMap_made (H:=Unit) ((w.alloc (.cells (madeCells #[.int .u16 0] 17408) 114)).alloc (.cells #[.slice (some ⟨w.heap.size,0,none⟩) 17408 17408,.slice none 0 0,.int .i64 d] 113)) Tryz.prog 116 (plainElem Tryz.prog 114)
  rwa [show ((w.alloc (.cells (madeCells #[.int .u16 0] 17408) 114)).alloc (.cells #[.slice (some ⟨w.heap.size,0,none⟩) 17408 17408,.slice none 0 0,.int .i64 d] 113)).heap.size=w.heap.size+1+1 by simp] at this
theorem ext_nat xs (l:List Nat) (h:xs.length=l.length) (hx:∀ j,j<l.length→xs.getD j 0=((l.getD j 0:Nat):Int)):xs=l.map fun n:Nat=>(n:Int):=by
 apply List.ext_getElem (by rw [h,List.length_map])
 intro j a b
 have:=hx j (by rw [List.length_map] at b; exact b)
 rw [List.getElem_map]
 simp only [List.getD,List.getElem?_eq_getElem a,Option.getD_some] at this
 rw [this,List.getElem?_eq_getElem (by rw [List.length_map] at b; exact b)]
 rfl
theorem fit_nat (l:List Nat) (h:∀ j,j<l.length→l.getD j 0≤65535):Fit .u16 (l.map fun n:Nat=>(n:Int)):=by
 intro z hz
 obtain ⟨n,hn,rfl⟩:=List.mem_map.1 hz
 obtain ⟨j,hj,rfl⟩:=List.getElem_of_mem hn
 have h6:=h j hj
 simp only [List.getD,List.getElem?_eq_getElem hj,Option.getD_some] at h6
 simp [IntKind.min,IntKind.max,IntKind.signed,IntKind.bits]
 omega
theorem ix_ok n (hn:n≤100000) {wr B gI} zs (hB:B≤gI) (hl:zs.length=n) (hf:Fit .u16 zs) (hh:wr.heap[gI]?=some (.cells (arrA zs) 114 (0,0))):Ok .u16 114 wr B (.slice (some ⟨gI,0,none⟩) n n) zs:=by
 refine ⟨hf,by rw [List.length_map]; omega,?_⟩
 rw [List.length_map,hl]
 refine ⟨by rw [List.length_map,Nat.mul_one,hl],.inr ⟨gI,n,arrA zs,rfl,hB,hh,Nat.le_refl _,by unfold maxLen; omega,by rw [arrA_size,Nat.mul_one,hl],?_⟩⟩
 rw [Nat.mul_one,List.take_of_length_le (by rw [Array.length_toList,arrA_size,hl]; omega)]
 simp [arrA]
theorem Ob.lower {e w B B' v} {bs} (h:Ob e w B v bs) (hb:B'≤B):Ob e w B' v bs:=by
 refine ⟨h.1,h.2.1,?_⟩
 rcases h.2.2 with h | ⟨g,cap,cur,hv,hg,r⟩
 ·exact .inl h
 ·exact .inr ⟨g,cap,cur,hv,by omega,r⟩
theorem idx_small f j (hj:j<(Tri.idx f).length):(Tri.idx f).getD j 0≤65535:=by
 have h1:=Tri.idx_len f
 have h2:=Tri.bls_len f
 have h3:=(Tri.bls_idx f j (by omega)).2
 omega
theorem fin4 {w wr} {rs:List Tri.Rg} {d gI gT gM bv xs} (hval:Tri.Val 0 rs) (hd:0≤d∧d≤65535) (h1:w.heap.size≤gI) (h2:w.heap.size≤gT) (h3:w.heap.size≤gM)
  (hI:Ix wr gI xs) (hx:∀ j,j<17408→xs.getD j 0=(((Tri.idx (Tri.get d rs)).getD j 0:Nat):Int)) (hT:Tb wr gT gI bv d) (hB:Ob 116 wr (gM+1) bv (bsAt (Tri.get d rs) 17408)) (hb:Below w.heap.size w wr) :
  CompPost w rs d (.returned (.pointer (some ⟨gT,0,none⟩))) wr:=by
 have hlen:=Tri.idx_len (Tri.get d rs)
 have hxs:=ext_nat xs (Tri.idx (Tri.get d rs)) (hI.1.trans hlen.symm) (fun j hj=>hx j (by rw [hlen] at hj; exact hj))
 have hfit:=fit_nat (Tri.idx (Tri.get d rs)) (idx_small (Tri.get d rs))
 have hok:=ix_ok 17408 (by omega) xs h1 hI.1 (by rw [hxs]; exact hfit) hI.2
 rw [hxs] at hok
 rw [bsAt_end] at hB
 exact ⟨_,rfl,⟨hval,hd,gT,_,bv,rfl,h2,hT,hok,hB.lower (by omega)⟩,hb⟩
set_option maxRecDepth 2000 in
set_option maxHeartbeats 2000000 in
theorem compiled4 v (rs:List Tri.Rg) d w (hv:Sr w v rs) (hval:Tri.Val 0 rs) (hd:0≤d∧d≤65535) :
  Calls Tryz.prog 186 #[v,.int .i64 d] w (CompPost w rs d):=by
 have HV:=Hd hval
 have hs0:=Hd hv
 have HRange:Hid (∀ c,0≤Tri.get d rs c∧Tri.get d rs c≤65535):=fun c=>Tri.get_range hd hval
 have HFin:Hid (∀ wr gI gT gM bv xs,w.heap.size≤gI→w.heap.size≤gT→w.heap.size≤gM→Ix wr gI xs→(∀ j,j<17408→xs.getD j 0=(((Tri.idx (Tri.get d rs)).getD j 0:Nat):Int))→Tb wr gT gI bv d→Ob 116 wr (gM+1) bv (bsAt (Tri.get d rs) 17408)→Below w.heap.size w wr→CompPost w rs d (.returned (.pointer (some ⟨gT,0,none⟩))) wr):=fun wr gI gT gM bv xs a1 a2 a3 a4 a5 a6 a7 a8=>fin4 hval hd a1 a2 a3 a4 a5 a6 a7 a8
 have HBlk:Hid (∀ (k p:Nat),(∀ j,j<k→Tri.hi (rs.getD j (0,0,0))<64 * (p:Int))→Tri.blk (Tri.get d (rs.drop k)) p=Tri.blk (Tri.get d rs) p):=by
  intro k p h
  unfold Tri.blk
  refine List.map_congr_left fun i _=>?_
  exact Tri.get_drop k fun j hj _=>by have:=h j hj; omega
 have HVals:Hid (∀ (u:Value) (k p:Nat) (w':World),Sr w' u (rs.drop k)→p<17408→Calls Tryz.prog 208 #[u,.int .i64 ((p:Int) * 64),.int .i64 d] w' (ArrPost w' (Tri.blk (Tri.get d (rs.drop k)) p))):=fun u k p w' h1 h2=>values4 u _ d p w' h1 (Tri.val_drop hval k) hd h2
 obtain ⟨d1,d2⟩:=hd
 have hmm:=@run_makeMap Tryz.prog
 have hmk:∀ w,(Instr.makeSlice 110 (.int .i64 17408) (.int .i64 17408)).run Tryz.prog w=.ok (.slice (some ⟨w.heap.size,0,none⟩) 17408 17408) (w.alloc (.cells (madeCells #[.int .u16 0] 17408) 114)):=run_make_row' (P:=Tryz.prog) 110 114 (.int .u16 0) 2 Tryz.underlying110 Tryz.info114 rfl .i64 .i64 17408 (by omega) (by omega)
 have HST:=Hd (start4 w d)
 generalize Tri.get d rs=f at *
 go_enter Tryz.func186,Tryz.ntmps186
 go_wp2
 have hst0:=(Uh HST) _ rfl
 generalize ((w.alloc (.cells (madeCells #[.int .u16 0] 17408) 114)).alloc (.cells #[.slice (some ⟨w.heap.size,0,none⟩) 17408 17408,.slice none 0 0,.int .i64 d] 113)).alloc (.map #[] 0)=wz at *
 obtain ⟨gI,hgI⟩:∃ g,g=w.heap.size:=⟨_,rfl⟩
 obtain ⟨gT,hgT⟩:∃ g,g=w.heap.size+1:=⟨_,rfl⟩
 obtain ⟨gM,hgM⟩:∃ g,g=w.heap.size+1+1:=⟨_,rfl⟩
 obtain ⟨hb0,hI0,hT0,hM0⟩:=hst0
 rw [← hgM] at hM0
 rw [← hgT,← hgI] at hT0
 rw [← hgI] at hI0
 have hgIT:gI<gT:=by omega
 have hgTM:gT<gM:=by omega
 have hgI0:w.heap.size≤gI:=by omega
 rw [← hgM,← hgT,← hgI]
 clear hgI hgT hgM
 go_loopw [0,17] (fun l i wr=>∃ (p k:Nat) (bv:Value) (xs:List Int),i=.int .i64 p∧p≤17408∧Sr w l (rs.drop k)∧k≤rs.length∧(∀ j,j<k→Tri.hi (rs.getD j (0,0,0))<64 * (p:Int))∧Ix wr gI xs∧(∀ j,j<p→xs.getD j 0=(((Tri.idx f).getD j 0:Nat):Int))∧Tb wr gT gI bv d∧Ob 116 wr (gM+1) bv (bsAt f p)∧wr.ownsMap Tryz.prog 116 (plainElem Tryz.prog 114) gM p (dat (bsAt f p))∧Below w.heap.size w wr) (fun _ i _=>17408 - (intOf i).toNat)
 case atStart=>exact ⟨0,0,_,_,rfl,by omega,by simpa using Uh hs0,by omega,fun j hj=>by omega,hI0,fun j hj=>by omega,hT0,⟨fun b hb=>(by cases hb),World.ownsRow_nil _ _ _ _⟩,hM0,hb0⟩
 case round =>
  clear hb0 hI0 hT0 hM0 hs0
  obtain ⟨p,k,bv,xs,rfl,hp,hs,hk,hhi,hI,hxs,hT,hB,hM,hbel⟩:=hrel
  by_cases hlt:p<17408
  ·have hFi:Fi ((p:Int) * 64):=by constructor <;> omega
   have hin1:(0:Int)≤(p:Int):=by omega
   have hin2:(p:Int)<17408:=by omega
   have HRe:=Hd (reaching4 _ (rs.drop k) ((p:Int) * 64) w wr hs hbel hFi)
   have HXS:=Hd hxs
   have HI:=Hd hI
   have HT:=Hd hT
   have HB:=Hd hB
   have HM:=Hd hM
   have HHI:=Hd hhi
   clear hFi hs hxs hI hT hB hM hhi
   go_wp2_with fail
   refine (Uh HRe).mono ?_
   rintro e w1 ⟨rfl,v1,k1,rfl,hs1,hk1,hh1⟩
   clear HRe
   have hs1:Sr w v1 (rs.drop (k+k1)):=by rw [← List.drop_drop]; exact hs1
   have hk1:k+k1≤rs.length:=by rw [List.length_drop] at hk1; omega
   have hh2:∀ j,j<k+k1→Tri.hi (rs.getD j (0,0,0))<64 * (p:Int):=by
    intro j hj
    by_cases hjk:j<k
    ·exact (Uh HHI) j hjk
    ·have:=hh1 (j - k) (by omega)
     rw [show (rs.drop k).getD (j - k) (0,0,0)=rs.getD j (0,0,0) by simp [List.getD,List.getElem?_drop,show k+(j - k)=j by omega]] at this
     omega
   have HVa:=(Uh HVals) v1 (k+k1) p w1 (hs1.below hbel) hlt
   rw [(Uh HBlk) _ _ hh2] at HVa
   have HVa:=Hd HVa
   have HH2:=Hd hh2
   clear HHI hh1 hh2
   generalize k+k1=kk at *
   go_wp2_with fail
   refine (Uh HVa).mono ?_
   rintro e w2 ⟨rfl,hb2⟩
   clear HVa
   have hgood:Good (Tri.blk f p):=blk_good (Uh HRange) p
   have hbs:=bsAt_good (Uh HRange) p
   have hdat:=Hd (dat_at (bsAt f p) hbs (bsAt_nodup f p) (Tri.blk f p) hgood)
   have hbl:=bsAt_len f p
   have HIn:=Hd (fun hm=>step_in (f:=f) hlt hm)
   have HNew:=Hd (fun hm=>step_new (f:=f) hlt hm)
   have hkey:=key_of hgood
   have h64:=hgood.1
   have hszb:=hbel.size
   have hb3:Below w.heap.size w (w2.alloc (.cells (arrA (Tri.blk f p)) 116)):=(hbel.trans (hb2.mono hbel.size)).alloc (Nat.le_trans hbel.size hb2.size) _
   have K3:Keeps w1 (w2.alloc (.cells (arrA (Tri.blk f p)) 116)) none:=Keeps.of_below (hb2.alloc hb2.size _) none
   have hI3:=Hd ((Uh HI).keep K3 (by simp))
   have hT3:=Hd ((Uh HT).keep K3 (by simp))
   have hB3:=Hd ((Uh HB).keep K3 (fun k h=>by cases h))
   have hM3:=map_keep (Uh HM) K3 (by simp)
   have hbk3:Bk (w2.alloc (.cells (arrA (Tri.blk f p)) 116)) w2.heap.size (Tri.blk f p):=Bk.new w2 _ _ rfl
   have hbox:=hbk3.box
   have hst:=fun w=>store_newB w (Tri.blk f p) h64
   have hgMw:gM<w1.heap.size:=(Uh HM).lt
   have hszw2:=hb2.size
   clear HI HT HB HM K3 hb2 hbel
   generalize Tri.blk f p=zs at *
   generalize bsAt f p=bs at *
   have hag:((arrA zs).toList:List Value)=zs.map (Value.int .u16):=by simp [arrA]
   have hsz64:(arrA zs).size=64:=by rw [arrA_size,h64]
   have HBOX:=Hd hbox
   have HKEY:=Hd hkey
   have HM3:=Hd hM3
   have HB3:=Hd hb3
   have HBK3:=Hd hbk3
   clear hbox hkey hM3 hb3 hbk3
   set_option maxRecDepth 100000 in
   go_upto_region 9 with fail
   clear hst hag hsz64
   have hM3:=Uh HM3
   have hkey:=Uh HKEY
   have hbox:=Uh HBOX
   generalize w2.alloc (.cells (arrA zs) 116)=w3 at *
   go_wp2_with (first | refine wpList_load_mid rfl 116 (.tmp 9) rfl w2.heap.size 0 rfl (zs.map (Value.int .u16)) _ hbox Tryz.underlying116 rfl (infoBl h64) ?_ | (at_lookup; refine wpList_lookup_own_ok_int _ rfl _ _ 269 rfl 116 114 .u16 arrLaw Tryz.underlying269 Tryz.underlying114 (zeroU16 _) gM p (dat bs) rfl hM3 _ (keyL zs) rfl hkey ?_))
   intro c hat hwc
   have hI3:=Uh hI3
   have hT3:=Uh hT3
   have HB3b:=hB3
   have hcx:=hI3.cell (i:=p) hlt
   have hfx:=hI3.frozen p
   have hp64:∀ j,j<kk→Tri.hi (rs.getD j (0,0,0))<64 * ((p+1:Nat):Int):=fun j hj=>by have:=(Uh HH2) j hj; omega
   have HHN:=Hd hp64
   have HXN:Hid (∀ n:Int,n=(((Tri.idx f).getD p 0:Nat):Int)→∀ j,j<p+1→(xs.set p n).getD j 0=(((Tri.idx f).getD j 0:Nat):Int)):=by
    intro n hn j hj
    rw [set_at xs p j n (by rw [hI3.1]; exact hlt)]
    by_cases hjp:j=p
    ·rw [if_pos hjp,hn,hjp]
    ·rw [if_neg hjp]; exact (Uh HXS) j (by omega)
   clear hp64 HH2
   by_cases hm:zs∈bs
   ·obtain ⟨e1,e2,e3⟩:=(Uh HIn) hm
    have hhas:Maps.has (dat bs) (keyL zs)=true:=by rw [(Uh hdat).1,decide_eq_true hm]
    have hc:c=(bs.idxOf zs:Int):=by
     rw [(Uh hdat).2 hm] at hat
     simpa using hat.symm
    subst hc
    rw [hhas]
    have HXF:=Hd ((Uh HXN) (bs.idxOf zs:Int) (by rw [e2]))
    have hI5:=hI3.set p (bs.idxOf zs:Int)
    have K5:=Keeps.of_set w3 ⟨gI,p,none⟩ (.int .u16 (bs.idxOf zs:Int))
    have hT5:=hT3.keep K5 (by simp; omega)
    have hB5:=(Uh hB3).keep K5 (fun k h=>by cases h; simp; omega)
    have hM5:=(map_keep hM3 K5 (by simp; omega)).mono (Nat.le_succ p)
    have hb5:=(Uh HB3).setCell (p:=⟨gI,p,none⟩) hgI0 (.int .u16 (bs.idxOf zs:Int))
    obtain ⟨y0,y1,y2⟩:=hT3.cells
    have HI5:=Hd hI5
    have HT5:=Hd hT5
    have HB5:=Hd hB5
    have HM5:=Hd hM5
    have E1:=Hd e1
    have HI3:=Hd hI3
    clear hat hwc hhas hdat HIn HNew HXN hI5 K5 hT5 hB5 hM5 e1 e2 HM3 hM3 hT3 hI3 hbox HBOX HB3 hB3 HB3b HBK3 hkey HKEY hm hbl hbs
    generalize (bs.idxOf zs:Int)=n at *
    go_wp2
    go_roundw
    case rel=>exact ⟨p+1,kk,bv,xs.set p n,by go_num,by omega,hs1,hk1,Uh HHN,Uh HI5,Uh HXF,Uh HT5,by rw [Uh E1]; exact Uh HB5,by rw [Uh E1]; exact Uh HM5,hb5⟩
    case measure=>simp [intOf]; omega
   ·obtain ⟨e1,e2⟩:=(Uh HNew) hm
    have hhas:Maps.has (dat bs) (keyL zs)=false:=by rw [(Uh hdat).1,decide_eq_false hm]
    rw [hhas]
    have HXF:=Hd ((Uh HXN) (bs.length:Int) (by rw [e2]))
    have E1:=Hd e1
    have hB3:=Uh hB3
    obtain ⟨ao,cpb,rfl,hcb1,hcb2⟩:=hB3.sb.shape
    obtain ⟨y0,y1,y2⟩:=hT3.cells
    have hl1:(0:Int)≤(bs.length:Int):=by omega
    have hl2:(bs.length:Int)≤65535:=by omega
    have hwf:(Lit.int .u16 (bs.length:Int)).wf=true:=u16_wf ⟨hl1,hl2⟩
    have HB3x:=Hd hB3
    have HT3x:=Hd hT3
    have HI3x:=Hd hI3
    clear hat hwc hhas hdat HIn HNew HXN e1 e2 HM3 hT3 hI3 HBOX hB3 HB3b HKEY hbs hcx hfx
    go_wp2_with (first | refine wpList_load_mid rfl 116 (.tmp 9) rfl w2.heap.size 0 rfl (zs.map (Value.int .u16)) _ hbox Tryz.underlying116 rfl (infoBl h64) ?_ | (at_mapUpdate; refine wpList_mapUpdate_own _ rfl _ _ _ 269 rfl 116 114 arrLaw Tryz.underlying269 (plainElem Tryz.prog 114) gM p (dat bs) rfl hM3 (by unfold maxLen; omega) _ _ (keyL zs) rfl rfl hkey (.lit (.int .u16 (bs.length:Int))) [] (plainElem_int Tryz.underlying114 hwf) ?_))
    intro w4 hM4 hg4
    have K4:=Keeps.of_grown hg4
    have hT4:=(Uh HT3x).keep K4 (by simp; omega)
    have hI4:=(Uh HI3x).keep K4 (by simp; omega)
    have hB4:=(Uh HB3x).keep K4 (fun k h=>by cases h; omega)
    have hk4:=(Uh HBK3).keep K4 (by simp; omega)
    have hb4:=below_grown (Uh HB3) hg4 (Uh HB3).size (fun k h=>by cases h; omega)
    rw [← dat_snoc] at hM4
    have hrow:=hB4.2
    have hrlt:=hrow.lt
    obtain ⟨i0,z0,hi0,hz0,hz1,hz2,hz3⟩:=infoB3
    obtain ⟨x0,x1,x2⟩:=hT4.cells
    have hfz:=hT4.frozen 1
    have hbl1:=fold_whole z64 rfl zs h64
    have hgM4:=hM4.lt
    have hol:∀ v∈zs.map (Value.int .u16),v.oneCell'=true:=ints_one .u16 zs
    have hkT:some gT≠(Value.slice ao bs.length cpb).ownBlock:=fun e=>by have:=(hrlt _ e.symm).1; omega
    have hkT:some gT≠(Value.slice ao bs.length cpb).ownBlock:=fun e=>by have:=(hrlt _ e.symm).1; omega
    have Sg0:∀ (W w8:World) (o:Obj),W.heap=(w4.alloc o).heap→W.grownBy w8 (Value.slice ao bs.length cpb).ownBlock→Keeps w4 w8 (Value.slice ao bs.length cpb).ownBlock:=by
     intro W w8 o hW hg
     exact ⟨fun k hk hne=>by
      rw [hg.block k (by rw [hW]; simp; omega) hne,hW]
      exact Below.heap_alloc w4 o k hk⟩
    have SG0:=Hd Sg0
    have HKT:=Hd hkT
    have HST8:Hid (∀ (w8:World) (x:Value),Tb w8 gT gI (.slice ao bs.length cpb) d→∀ gg cap,x=.slice (some ⟨gg,0,none⟩) (bs.length+1) cap→(Instr.storeAt 111 (.pointer (some ⟨gT,1,none⟩)) x).run Tryz.prog w8=.ok () (w8.setCell ⟨gT,1,none⟩ x)):=by
     intro w8 x hT8 gg cap hx
     subst hx
     obtain ⟨_,q1,_⟩:=hT8.cells
     have q2:=hT8.frozen 1
     go_simp
    have hl4:(Instr.loadAt 111 (.pointer (some ⟨gT,1,none⟩))).run Tryz.prog w4.drew=.ok (.slice ao bs.length cpb) w4.drew:=by
     have q1:w4.drew.cell? ⟨gT,1,none⟩=some (.slice ao bs.length cpb):=x1
     go_simp
    have hl4b:(Instr.loadAt 111 (.pointer (some ⟨gT,1,none⟩))).run Tryz.prog (w4.drew.alloc (.cells (zs.map (Value.int .u16)).toArray 116))=.ok (.slice ao bs.length cpb) (w4.drew.alloc (.cells (zs.map (Value.int .u16)).toArray 116)):=by
     have q1:(w4.drew.alloc (.cells (zs.map (Value.int .u16)).toArray 116)).cell? ⟨gT,1,none⟩=some (.slice ao bs.length cpb):=by
      rw [((Below.refl _ w4.drew).alloc (Nat.le_refl _) _).cell (lt_of_cell? (w:=w4) x1)]; exact x1
     generalize w4.drew.alloc (.cells (zs.map (Value.int .u16)).toArray 116)=wq at *
     go_simp
    have hl5:=run_loadAt_mid (P:=Tryz.prog) w4.drew w2.heap.size 0 116 (zs.map (Value.int .u16)) _ hk4.box Tryz.underlying116 rfl (infoBl h64)
    have hbl1:=run_build1 111 116 Tryz.underlying111 infoB2 w4.drew zs h64
    have hrowd:(w4.drew.alloc (.cells (zs.map (Value.int .u16)).toArray 116)).ownsRow (gM+1) 116 64 (.slice ao bs.length cpb) bs.length (bcells bs):=World.ownsRow.alloc (w:=w4.drew) hrow _
    have hnews:∀ j u,(zs.map (Value.int .u16))[j]?=some u→(w4.drew.alloc (.cells (zs.map (Value.int .u16)).toArray 116)).cell? ((⟨w4.heap.size,0,none⟩:Addr).add j)=some u:=by
     intro j u hj
     have h9:=heap_alloc_last w4.drew (.cells (zs.map (Value.int .u16)).toArray 116)
     rw [addr_add,Nat.zero_add,cell_of_row _ w4.heap.size j _ _ _ h9]
     simpa using hj
    have hnl:(zs.map (Value.int .u16)).length=1 * 64:=by simp; omega
    have hbase4:gM+1≤(w4.drew.alloc (.cells (zs.map (Value.int .u16)).toArray 116)).heap.size:=by have h9:w4.drew.heap.size=w4.heap.size:=rfl; simp; omega
    have hH4:(w4.drew.alloc (.cells (zs.map (Value.int .u16)).toArray 116)).heap.size=w4.heap.size+1:=by have h9:w4.drew.heap.size=w4.heap.size:=rfl; simp
    have HKI:Hid (some gI≠(Value.slice ao bs.length cpb).ownBlock):=fun e=>by have:=(hrlt _ e.symm).1; omega
    have HKM:Hid (some gM≠(Value.slice ao bs.length cpb).ownBlock):=fun e=>by have:=(hrlt _ e.symm).1; omega
    have HOb:Hid (∀ (w8:World) (x:Value),w8.ownsRow (gM+1) 116 64 x (bs.length+1) (bcells bs++zs.map (Value.int .u16))→Ob 116 w8 (gM+1) x (bs++[zs])):=by
     intro w8 x h
     refine ⟨fun b hb=>?_,?_⟩
     ·rcases List.mem_append.1 hb with h1 | h1
      ·exact hB4.1 b h1
      ·simp at h1; subst h1; exact hgood
     ·rw [bcells_app,bcells_single,List.length_append]; exact h
    have HLast:Hid (∀ (w8:World) (x:Value),Tb w8 gT gI (.slice ao bs.length cpb) d→Ix w8 gI xs→w8.ownsMap Tryz.prog 116 (plainElem Tryz.prog 114) gM (p+1) (dat (bs++[zs]))→Ob 116 w8 (gM+1) x (bs++[zs])→Below w.heap.size w w8 →
      ((w8.setCell ⟨gT,1,none⟩ x).cell? ⟨gT,0,none⟩=some (.slice (some ⟨gI,0,none⟩) 17408 17408)∧(w8.setCell ⟨gT,1,none⟩ x).cell? ⟨gT,1,none⟩=some x∧(w8.setCell ⟨gT,1,none⟩ x).cell? ⟨gT,2,none⟩=some (.int .i64 d))∧(w8.setCell ⟨gT,1,none⟩ x).cell? ⟨gI,p,none⟩=some (.int .u16 (xs.getD p 0))∧(w8.setCell ⟨gT,1,none⟩ x).frozen? ⟨gI,p,none⟩=false ∧
      (Ix ((w8.setCell ⟨gT,1,none⟩ x).setCell ⟨gI,p,none⟩ (.int .u16 (bs.length:Int))) gI (xs.set p (bs.length:Int))∧Tb ((w8.setCell ⟨gT,1,none⟩ x).setCell ⟨gI,p,none⟩ (.int .u16 (bs.length:Int))) gT gI x d∧Ob 116 ((w8.setCell ⟨gT,1,none⟩ x).setCell ⟨gI,p,none⟩ (.int .u16 (bs.length:Int))) (gM+1) x (bs++[zs]) ∧
       ((w8.setCell ⟨gT,1,none⟩ x).setCell ⟨gI,p,none⟩ (.int .u16 (bs.length:Int))).ownsMap Tryz.prog 116 (plainElem Tryz.prog 114) gM (p+1) (dat (bs++[zs]))∧Below w.heap.size w ((w8.setCell ⟨gT,1,none⟩ x).setCell ⟨gI,p,none⟩ (.int .u16 (bs.length:Int))))):=by
     intro w8 x a1 a2 a3 a4 a5
     have b1:=a1.set x
     have k1:=Keeps.of_set w8 ⟨gT,1,none⟩ x
     have b2:=a2.keep k1 (by simp; omega)
     have b3:=map_keep a3 k1 (by simp; omega)
     have b4:=a4.keep k1 (fun k h=>by cases h; simp; omega)
     have b5:=a5.setCell (p:=⟨gT,1,none⟩) (show w.heap.size≤gT by omega) x
     have k2:=Keeps.of_set (w8.setCell ⟨gT,1,none⟩ x) ⟨gI,p,none⟩ (.int .u16 (bs.length:Int))
     exact ⟨b1.cells,b2.cell hlt,b2.frozen p,b2.set p _,b1.keep k2 (by simp; omega),b4.keep k2 (fun k h=>by cases h; simp; omega),map_keep b3 k2 (by simp; omega),b5.setCell (p:=⟨gI,p,none⟩) hgI0 _⟩
    have hbw4:w.heap.size≤w4.drew.heap.size:=hb4.size
    have hgM1:w.heap.size≤gM+1:=by omega
    have hbx4:w.heap.size≤(w4.drew.alloc (.cells (zs.map (Value.int .u16)).toArray 116)).heap.size:=by have h9:w4.drew.heap.size=w4.heap.size:=rfl; have:=hb4.size; simp; omega
    clear hbox Sg0 hkT
    go_wp2
    refine wp_region_any (by kernel_rfl) ?_
    change wpAny _ _ _ _ _ _ _ (World.drew _)
    refine wpAny_take (i:=0) (oi:=⟨some 46,_,_,_,_,_⟩) (v:=.pointer (some ⟨gT,0,none⟩)) rfl (by kernel_rfl) (by kernel_rfl) (by kernel_rfl) (fun _ _ _ h=>h) (Or.inl ⟨by rfl,?_⟩) ?_
    ·intro w; go_simp
    simp only [Act.put,sa9,sb9,sc9]
    refine wpAny_take (i:=1) (oi:=⟨some 47,_,_,_,_,_⟩) (v:=.pointer (some ⟨gT,0,none⟩)) rfl (by kernel_rfl) (by kernel_rfl) (by kernel_rfl) (fun _ _ _ h=>h) (Or.inl ⟨by rfl,?_⟩) ?_
    ·intro w; go_simp
    simp only [Act.put,sa9,sb9,sc9]
    refine wpAny_take (i:=2) (oi:=⟨some 48,_,_,_,_,_⟩) (v:=.pointer (some ⟨gT,0,none⟩)) rfl (by kernel_rfl) (by kernel_rfl) (by kernel_rfl) (fun _ _ _ h=>h) (Or.inl ⟨by rfl,?_⟩) ?_
    ·intro w; go_simp
    simp only [Act.put,sa9,sb9,sc9]
    refine wpAny_take (i:=3) (oi:=⟨some 49,_,_,_,_,_⟩) (v:=.pointer (some ⟨gT,1,none⟩)) rfl (by kernel_rfl) (by kernel_rfl) (by kernel_rfl) (fun _ _ _ h=>h) (Or.inl ⟨by rfl,?_⟩) ?_
    ·intro w; go_simp
    simp only [Act.put,sa9,sb9,sc9]
    refine wpAny_ready (rs:=[4,5]) (by kernel_rfl) (by simp) ?_
    refine AllReady.cons (o:=⟨some 50,_,_,_,_,_⟩) rfl (fun K hK=>?_) (AllReady.cons (o:=⟨some 51,_,_,_,_,_⟩) rfl (fun K hK=>?_) AllReady.nil)
    ·refine step_load (by rfl) 111 (.tmp 49) (by rfl) _ _ (by rfl) hl4 ?_
     refine hK _ _ ?_
     clear hK K
     simp only [Act.put,sa9,sb9,sc9]
     refine wpAny_ready (rs:=[5]) (by kernel_rfl) (by simp) ?_
     refine AllReady.cons (o:=⟨some 51,_,_,_,_,_⟩) rfl (fun K hK=>?_) AllReady.nil
     refine step_load (by rfl) 116 (.tmp 9) (by rfl) _ _ (by rfl) hl5 ?_
     refine hK _ _ ?_
     clear hK K
     simp only [Act.put,sa9,sb9,sc9]
     refine wpAny_ready (rs:=[6]) (by kernel_rfl) (by simp) ?_
     refine AllReady.cons (o:=⟨some 52,_,_,_,_,_⟩) rfl (fun K hK=>?_) AllReady.nil
     refine step_build (by rfl) 111 (.tmp 51) (by rfl) _ _ (by rfl) hbl1 ?_
     refine hK _ _ ?_
     clear hK K
     simp only [Act.put,sa9,sb9,sc9]
     refine wpAny_ready (rs:=[7]) (by kernel_rfl) (by simp) ?_
     refine AllReady.cons (o:=⟨some 53,_,_,_,_,_⟩) rfl (fun K hK=>?_) AllReady.nil
     refine step_append_lies _ (by rfl) _ _ _ (by rfl) (gM+1) 116 i0 z0 64 128 Tryz.underlying111 hi0 hz0 hz1 hz2 hz3 (by omega) (.slice ao bs.length cpb) bs.length (bcells bs) (by rfl) hrowd ⟨w4.heap.size,0,none⟩ 1 1 (zs.map (Value.int .u16)) (by rfl) hnl hnews hol (by omega) (by unfold maxLen; omega) (by omega) hbase4 (w4.heap.size+1) hH4 ?_
     intro gg cap w8 hrow8 hgrow hat hlt8
     refine hK _ _ ?_
     clear hK K
     simp only [Act.put,sa9,sb9,sc9]
     refine wpAny_take (i:=8) (oi:=⟨some 54,_,_,_,_,_⟩) (v:=.pointer (some ⟨gT,0,none⟩)) rfl (by kernel_rfl) (by kernel_rfl) (by kernel_rfl) (fun _ _ _ h=>h) (Or.inl ⟨by rfl,?_⟩) ?_
     ·intro w; go_simp
     simp only [Act.put,sa9,sb9,sc9]
     refine wpAny_take (i:=9) (oi:=⟨some 55,_,_,_,_,_⟩) (v:=.pointer (some ⟨gT,1,none⟩)) rfl (by kernel_rfl) (by kernel_rfl) (by kernel_rfl) (fun _ _ _ h=>h) (Or.inl ⟨by rfl,?_⟩) ?_
     ·intro w; go_simp
     simp only [Act.put,sa9,sb9,sc9]
     refine wpAny_ready (rs:=[10]) (by kernel_rfl) (by simp) ?_
     refine AllReady.cons (o:=⟨none,_,_,_,_,_⟩) rfl (fun K hK=>?_) AllReady.nil
     have hT8:=hT4.keep ((Uh SG0) _ _ (.cells (zs.map (Value.int .u16)).toArray 116) (by rfl) hgrow) (Uh HKT)
     refine step_store (by rfl) 111 (.tmp 55) (.tmp 53) (by rfl) (.pointer (some ⟨gT,1,none⟩)) (.slice (some ⟨gg,0,none⟩) (bs.length+1) cap) (by rfl) (by rfl) ((Uh HST8) w8 _ hT8 gg cap rfl) ?_
     refine hK _ _ ?_
     clear hK K
     simp only [Act.put]
     refine wpAny_done (by kernel_rfl) ?_ _
     have hK8:=(Uh SG0) _ _ (.cells (zs.map (Value.int .u16)).toArray 116) (by rfl) hgrow
     have hB8:=(Uh HOb) w8 _ hrow8
     have hb8:Below w.heap.size w w8:=(hb4.drew.alloc hbw4 _).grown hgrow hbx4 (fun k hk=>Nat.le_trans hgM1 (hrlt k hk).1)
     have hfin:=(Uh HLast) w8 _ hT8 (hI4.keep hK8 (Uh HKI)) (map_keep hM4 hK8 (Uh HKM)) hB8 hb8
     generalize w8.setCell ⟨gT,1,none⟩ (.slice (some ⟨gg,0,none⟩) (bs.length+1) cap)=w9 at *
     obtain ⟨⟨y0,y1,y2⟩,hcx,hfx,hlast⟩:=hfin
     have HL:=Hd hlast
     clear hlast hrow8 hgrow hat hlt8 hT8 hK8 hB8 hb8 hb4 hI4 hT4 hB4 hM4 hrow hrlt hk4 hl4 hl4b hl5 hbl1 hrowd hnews HOb HLast x0 x1 x2 hg4 K4
     generalize xs.getD p 0=old at *
     go_wp2
     go_roundw
     case rel=>exact ⟨p+1,kk,_,xs.set p (bs.length:Int),by go_num,by omega,hs1,hk1,Uh HHN,(Uh HL).1,Uh HXF,(Uh HL).2.1,by rw [Uh E1]; exact (Uh HL).2.2.1,by rw [Uh E1]; exact (Uh HL).2.2.2.1,(Uh HL).2.2.2.2⟩
     case measure=>simp [intOf]; omega
    ·refine step_load (by rfl) 116 (.tmp 9) (by rfl) _ _ (by rfl) hl5 ?_
     refine hK _ _ ?_
     clear hK K
     simp only [Act.put,sa9,sb9,sc9]
     refine wpAny_ready (rs:=[4,6]) (by kernel_rfl) (by simp) ?_
     refine AllReady.cons (o:=⟨some 50,_,_,_,_,_⟩) rfl (fun K hK=>?_) (AllReady.cons (o:=⟨some 52,_,_,_,_,_⟩) rfl (fun K hK=>?_) AllReady.nil)
     ·refine step_load (by rfl) 111 (.tmp 49) (by rfl) _ _ (by rfl) hl4 ?_
      refine hK _ _ ?_
      clear hK K
      simp only [Act.put,sa9,sb9,sc9]
      refine wpAny_ready (rs:=[6]) (by kernel_rfl) (by simp) ?_
      refine AllReady.cons (o:=⟨some 52,_,_,_,_,_⟩) rfl (fun K hK=>?_) AllReady.nil
      refine step_build (by rfl) 111 (.tmp 51) (by rfl) _ _ (by rfl) hbl1 ?_
      refine hK _ _ ?_
      clear hK K
      simp only [Act.put,sa9,sb9,sc9]
      refine wpAny_ready (rs:=[7]) (by kernel_rfl) (by simp) ?_
      refine AllReady.cons (o:=⟨some 53,_,_,_,_,_⟩) rfl (fun K hK=>?_) AllReady.nil
      refine step_append_lies _ (by rfl) _ _ _ (by rfl) (gM+1) 116 i0 z0 64 128 Tryz.underlying111 hi0 hz0 hz1 hz2 hz3 (by omega) (.slice ao bs.length cpb) bs.length (bcells bs) (by rfl) hrowd ⟨w4.heap.size,0,none⟩ 1 1 (zs.map (Value.int .u16)) (by rfl) hnl hnews hol (by omega) (by unfold maxLen; omega) (by omega) hbase4 (w4.heap.size+1) hH4 ?_
      intro gg cap w8 hrow8 hgrow hat hlt8
      refine hK _ _ ?_
      clear hK K
      simp only [Act.put,sa9,sb9,sc9]
      refine wpAny_take (i:=8) (oi:=⟨some 54,_,_,_,_,_⟩) (v:=.pointer (some ⟨gT,0,none⟩)) rfl (by kernel_rfl) (by kernel_rfl) (by kernel_rfl) (fun _ _ _ h=>h) (Or.inl ⟨by rfl,?_⟩) ?_
      ·intro w; go_simp
      simp only [Act.put,sa9,sb9,sc9]
      refine wpAny_take (i:=9) (oi:=⟨some 55,_,_,_,_,_⟩) (v:=.pointer (some ⟨gT,1,none⟩)) rfl (by kernel_rfl) (by kernel_rfl) (by kernel_rfl) (fun _ _ _ h=>h) (Or.inl ⟨by rfl,?_⟩) ?_
      ·intro w; go_simp
      simp only [Act.put,sa9,sb9,sc9]
      refine wpAny_ready (rs:=[10]) (by kernel_rfl) (by simp) ?_
      refine AllReady.cons (o:=⟨none,_,_,_,_,_⟩) rfl (fun K hK=>?_) AllReady.nil
      have hT8:=hT4.keep ((Uh SG0) _ _ (.cells (zs.map (Value.int .u16)).toArray 116) (by rfl) hgrow) (Uh HKT)
      refine step_store (by rfl) 111 (.tmp 55) (.tmp 53) (by rfl) (.pointer (some ⟨gT,1,none⟩)) (.slice (some ⟨gg,0,none⟩) (bs.length+1) cap) (by rfl) (by rfl) ((Uh HST8) w8 _ hT8 gg cap rfl) ?_
      refine hK _ _ ?_
      clear hK K
      simp only [Act.put]
      refine wpAny_done (by kernel_rfl) ?_ _
      have hK8:=(Uh SG0) _ _ (.cells (zs.map (Value.int .u16)).toArray 116) (by rfl) hgrow
      have hB8:=(Uh HOb) w8 _ hrow8
      have hb8:Below w.heap.size w w8:=(hb4.drew.alloc hbw4 _).grown hgrow hbx4 (fun k hk=>Nat.le_trans hgM1 (hrlt k hk).1)
      have hfin:=(Uh HLast) w8 _ hT8 (hI4.keep hK8 (Uh HKI)) (map_keep hM4 hK8 (Uh HKM)) hB8 hb8
      generalize w8.setCell ⟨gT,1,none⟩ (.slice (some ⟨gg,0,none⟩) (bs.length+1) cap)=w9 at *
      obtain ⟨⟨y0,y1,y2⟩,hcx,hfx,hlast⟩:=hfin
      have HL:=Hd hlast
      clear hlast hrow8 hgrow hat hlt8 hT8 hK8 hB8 hb8 hb4 hI4 hT4 hB4 hM4 hrow hrlt hk4 hl4 hl4b hl5 hbl1 hrowd hnews HOb HLast x0 x1 x2 hg4 K4
      generalize xs.getD p 0=old at *
      go_wp2
      go_roundw
      case rel=>exact ⟨p+1,kk,_,xs.set p (bs.length:Int),by go_num,by omega,hs1,hk1,Uh HHN,(Uh HL).1,Uh HXF,(Uh HL).2.1,by rw [Uh E1]; exact (Uh HL).2.2.1,by rw [Uh E1]; exact (Uh HL).2.2.2.1,(Uh HL).2.2.2.2⟩
      case measure=>simp [intOf]; omega
     ·refine step_build (by rfl) 111 (.tmp 51) (by rfl) _ _ (by rfl) hbl1 ?_
      refine hK _ _ ?_
      clear hK K
      simp only [Act.put,sa9,sb9,sc9]
      refine wpAny_ready (rs:=[4]) (by kernel_rfl) (by simp) ?_
      refine AllReady.cons (o:=⟨some 50,_,_,_,_,_⟩) rfl (fun K hK=>?_) AllReady.nil
      refine step_load (by rfl) 111 (.tmp 49) (by rfl) _ _ (by rfl) hl4b ?_
      refine hK _ _ ?_
      clear hK K
      simp only [Act.put,sa9,sb9,sc9]
      refine wpAny_ready (rs:=[7]) (by kernel_rfl) (by simp) ?_
      refine AllReady.cons (o:=⟨some 53,_,_,_,_,_⟩) rfl (fun K hK=>?_) AllReady.nil
      refine step_append_lies _ (by rfl) _ _ _ (by rfl) (gM+1) 116 i0 z0 64 128 Tryz.underlying111 hi0 hz0 hz1 hz2 hz3 (by omega) (.slice ao bs.length cpb) bs.length (bcells bs) (by rfl) hrowd ⟨w4.heap.size,0,none⟩ 1 1 (zs.map (Value.int .u16)) (by rfl) hnl hnews hol (by omega) (by unfold maxLen; omega) (by omega) hbase4 (w4.heap.size+1) hH4 ?_
      intro gg cap w8 hrow8 hgrow hat hlt8
      refine hK _ _ ?_
      clear hK K
      simp only [Act.put,sa9,sb9,sc9]
      refine wpAny_take (i:=8) (oi:=⟨some 54,_,_,_,_,_⟩) (v:=.pointer (some ⟨gT,0,none⟩)) rfl (by kernel_rfl) (by kernel_rfl) (by kernel_rfl) (fun _ _ _ h=>h) (Or.inl ⟨by rfl,?_⟩) ?_
      ·intro w; go_simp
      simp only [Act.put,sa9,sb9,sc9]
      refine wpAny_take (i:=9) (oi:=⟨some 55,_,_,_,_,_⟩) (v:=.pointer (some ⟨gT,1,none⟩)) rfl (by kernel_rfl) (by kernel_rfl) (by kernel_rfl) (fun _ _ _ h=>h) (Or.inl ⟨by rfl,?_⟩) ?_
      ·intro w; go_simp
      simp only [Act.put,sa9,sb9,sc9]
      refine wpAny_ready (rs:=[10]) (by kernel_rfl) (by simp) ?_
      refine AllReady.cons (o:=⟨none,_,_,_,_,_⟩) rfl (fun K hK=>?_) AllReady.nil
      have hT8:=hT4.keep ((Uh SG0) _ _ (.cells (zs.map (Value.int .u16)).toArray 116) (by rfl) hgrow) (Uh HKT)
      refine step_store (by rfl) 111 (.tmp 55) (.tmp 53) (by rfl) (.pointer (some ⟨gT,1,none⟩)) (.slice (some ⟨gg,0,none⟩) (bs.length+1) cap) (by rfl) (by rfl) ((Uh HST8) w8 _ hT8 gg cap rfl) ?_
      refine hK _ _ ?_
      clear hK K
      simp only [Act.put]
      refine wpAny_done (by kernel_rfl) ?_ _
      have hK8:=(Uh SG0) _ _ (.cells (zs.map (Value.int .u16)).toArray 116) (by rfl) hgrow
      have hB8:=(Uh HOb) w8 _ hrow8
      have hb8:Below w.heap.size w w8:=(hb4.drew.alloc hbw4 _).grown hgrow hbx4 (fun k hk=>Nat.le_trans hgM1 (hrlt k hk).1)
      have hfin:=(Uh HLast) w8 _ hT8 (hI4.keep hK8 (Uh HKI)) (map_keep hM4 hK8 (Uh HKM)) hB8 hb8
      generalize w8.setCell ⟨gT,1,none⟩ (.slice (some ⟨gg,0,none⟩) (bs.length+1) cap)=w9 at *
      obtain ⟨⟨y0,y1,y2⟩,hcx,hfx,hlast⟩:=hfin
      have HL:=Hd hlast
      clear hlast hrow8 hgrow hat hlt8 hT8 hK8 hB8 hb8 hb4 hI4 hT4 hB4 hM4 hrow hrlt hk4 hl4 hl4b hl5 hbl1 hrowd hnews HOb HLast x0 x1 x2 hg4 K4
      generalize xs.getD p 0=old at *
      go_wp2
      go_roundw
      case rel=>exact ⟨p+1,kk,_,xs.set p (bs.length:Int),by go_num,by omega,hs1,hk1,Uh HHN,(Uh HL).1,Uh HXF,(Uh HL).2.1,by rw [Uh E1]; exact (Uh HL).2.2.1,by rw [Uh E1]; exact (Uh HL).2.2.2.1,(Uh HL).2.2.2.2⟩
      case measure=>simp [intOf]; omega
  ·obtain rfl:p=17408:=by omega
   have HR:=(Uh HFin) wr gI gT gM bv xs hgI0 (by omega) (by omega) hI hxs hT hB hbel
   clear hI hxs hT hB hM hbel hs hhi
   go_wp2
   go_ret
   exact HR
end Go.Proofs.YtihhhjodonkkcaaGreatDoor.Ti
namespace Go.Proofs.YtihhhjodonkkcaaGreatDoor.Ti
open Go.RowKit
theorem T4.lower {w B B' t} {rs:List Tri.Rg} {d} (h:T4 w B t rs d) (hb:B'≤B):T4 w B' t rs d:=by
 obtain ⟨h1,h2,g,iv,bv,h3,h4,h5,h6,h7⟩:=h
 exact ⟨h1,h2,g,iv,bv,h3,by omega,h5,h6.lower hb,h7.lower hb⟩
theorem build4 v (rs:List Tri.Rg) d w (hv:Sr w v rs) (hd:Fi d):Calls Tryz.prog 158 #[v,.int .i64 d] w (BuildPost (fun w' t rs d=>T4 w' w.heap.size t rs d) w rs d):=by
 have H1:=Hd (firstFault4 v rs d w hv hd)
 have H2:Hid (∀ w1,Below w.heap.size w w1→(Tri.check d rs).2=0→Calls Tryz.prog 186 #[v,.int .i64 d] w1 (CompPost w1 rs d)):=by
  intro w1 hb h0
  obtain ⟨h1,h2⟩:=Tri.check_ok.1 h0
  exact compiled4 v rs d w1 (hv.below hb) h1 h2
 have hz:Hid ((Tri.check d rs).2=0→(Tri.check d rs).1=0):=Tri.check_zero 0 none rs
 have HP1:Hid (∀ w',Below w.heap.size w w'→(Tri.check d rs).2≠0→BuildPost (fun w' t rs d=>T4 w' w.heap.size t rs d) w rs d (.returned (.tuple #[.pointer none,.int .i64 (Tri.check d rs).1,.int .i64 (Tri.check d rs).2])) w'):=fun w' hb hn=>⟨hb,.inr ⟨hn,rfl⟩⟩
 have HP2:Hid (∀ w' a,Below w.heap.size w w'→(Tri.check d rs).2=0→T4 w' w.heap.size (.pointer (some a)) rs d→BuildPost (fun w' t rs d=>T4 w' w.heap.size t rs d) w rs d (.returned (.tuple #[.pointer (some a),.int .i64 0,.int .i64 0])) w'):=fun w' a hb hn hT=>⟨hb,.inl ⟨hn,a,rfl,hT⟩⟩
 generalize Tri.check d rs=q at *
 obtain ⟨q1,q2⟩:=q
 go_enter Tryz.func158,Tryz.ntmps158
 go_wp2_with fail
 refine (Uh H1).mono ?_
 rintro e w1 ⟨rfl,hb1⟩
 by_cases h0:q2=0
 ·subst h0
  have HC:=Hd ((Uh H2) w1 hb1 rfl)
  go_wp2_with fail
  refine (Uh HC).mono ?_
  rintro e w2 ⟨a,rfl,hT,hb2⟩
  go_wp2
  go_ret3
  exact (Uh HP2) _ a (hb1.trans (hb2.mono hb1.size)) (by first | rfl | trivial) (hT.lower hb1.size)
 ·have h0':(q2 != 0)=true:=by simp [h0]
  go_wp2
  go_ret3
  exact (Uh HP1) _ hb1 h0
end Go.Proofs.YtihhhjodonkkcaaGreatDoor.Ti
