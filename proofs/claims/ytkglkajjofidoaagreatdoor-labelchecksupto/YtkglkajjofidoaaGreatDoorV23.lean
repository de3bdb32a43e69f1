/- TiTrE4 TiTrH4 -/
import Derived.Test.YtkglkajjofidoaaGreatDoorV22
import Derived.Deep.AppendLies
import Derived.Deep.DrawnRows
import Derived.Deep.OwnRows
import Derived.Deep.RegionHeld3
import Derived.Deep.RegionLaw
import Derived.Great.BuildSlice
set_option maxHeartbeats 2000000
set_option maxRecDepth 2000
namespace Go.Proofs.YtkglkajjofidoaaGreatDoor.Ti
open Go.Proofs.Tryz
open Go.RowKit Go.Maps
set_option linter.unusedSimpArgs false
theorem z0J (w:World):(zeroValue 107).run prog w=.ok (.int .u16 0) w:=(zero_of_info (n:=1) (by kernel_rfl)).1 w
theorem y2w (w:World) (zs:List Int) (h:zs.length=64):(storeCells ⟨w.heap.size,0,none⟩ (zs.map (Value.int .u16)) 0).run prog (w.alloc (.cells #[.int .u16 0,.int .u16 0,.int .u16 0,.int .u16 0,.int .u16 0,.int .u16 0,.int .u16 0,.int .u16 0,.int .u16 0,.int .u16 0,.int .u16 0,.int .u16 0,.int .u16 0,.int .u16 0,.int .u16 0,.int .u16 0,.int .u16 0,.int .u16 0,.int .u16 0,.int .u16 0,.int .u16 0,.int .u16 0,.int .u16 0,.int .u16 0,.int .u16 0,.int .u16 0,.int .u16 0,.int .u16 0,.int .u16 0,.int .u16 0,.int .u16 0,.int .u16 0,.int .u16 0,.int .u16 0,.int .u16 0,.int .u16 0,.int .u16 0,.int .u16 0,.int .u16 0,.int .u16 0,.int .u16 0,.int .u16 0,.int .u16 0,.int .u16 0,.int .u16 0,.int .u16 0,.int .u16 0,.int .u16 0,.int .u16 0,.int .u16 0,.int .u16 0,.int .u16 0,.int .u16 0,.int .u16 0,.int .u16 0,.int .u16 0,.int .u16 0,.int .u16 0,.int .u16 0,.int .u16 0,.int .u16 0,.int .u16 0,.int .u16 0,.int .u16 0] 109))=.ok () (w.alloc (.cells (arrA zs) 109)):=by
 have h1:=run_storeCells_new (P:=prog) w 109 #[.int .u16 0,.int .u16 0,.int .u16 0,.int .u16 0,.int .u16 0,.int .u16 0,.int .u16 0,.int .u16 0,.int .u16 0,.int .u16 0,.int .u16 0,.int .u16 0,.int .u16 0,.int .u16 0,.int .u16 0,.int .u16 0,.int .u16 0,.int .u16 0,.int .u16 0,.int .u16 0,.int .u16 0,.int .u16 0,.int .u16 0,.int .u16 0,.int .u16 0,.int .u16 0,.int .u16 0,.int .u16 0,.int .u16 0,.int .u16 0,.int .u16 0,.int .u16 0,.int .u16 0,.int .u16 0,.int .u16 0,.int .u16 0,.int .u16 0,.int .u16 0,.int .u16 0,.int .u16 0,.int .u16 0,.int .u16 0,.int .u16 0,.int .u16 0,.int .u16 0,.int .u16 0,.int .u16 0,.int .u16 0,.int .u16 0,.int .u16 0,.int .u16 0,.int .u16 0,.int .u16 0,.int .u16 0,.int .u16 0,.int .u16 0,.int .u16 0,.int .u16 0,.int .u16 0,.int .u16 0,.int .u16 0,.int .u16 0,.int .u16 0,.int .u16 0] (arrA zs) (by rw [x1y,h]; exact y4g) (by rw [x1y,h]; rfl) (x6s zs);simpa [arrA] using h1
theorem y2q (t e:TypeId) (hu:prog.underlying t=some (.slice e)) (hi:(prog.info? e).map (fun i=>(i.size,i.zero.map (·.cells.size)))=some (64,some 64)) (w:World) (zs:List Int) (h:zs.length=64) :
  (Instr.buildSlice t 1 #[(0,.agg (zs.map (Value.int .u16)).toArray)]).run prog w=.ok (.slice (some ⟨w.heap.size,0,none⟩) 1 1) (w.alloc (.cells (zs.map (Value.int .u16)).toArray e)):=by
 obtain ⟨ie,cy,h1⟩:=Option.map_eq_some_iff.1 hi;simp only [Prod.mk.injEq] at h1;obtain ⟨h1,h2⟩:=h1;obtain ⟨z,hz,co⟩:=Option.map_eq_some_iff.1 h2;refine run_buildSlice w t e 1 _ _ ie z hu cy hz (by rw [h1]; decide) (by rw [h1]; decide) ?_;rw [h1];have:=Great.fill_whole (s:=64) (by decide) [Value.agg (zs.map (Value.int .u16)).toArray] ((Array.range (1 * 64)).map (z.cells[· % z.cells.size]!)) (fun v hv=>by simp at hv; subst hv; simp [Value.cells,h]) (by simp);simpa [Value.cells] using this
theorem y1H (C:Array Value) (hC:C.size=64) (zs:List Int) (h:zs.length=64):List.foldl (fun (cs:Array Value) (x:Value × Nat)=>cs.setIfInBounds x.2 x.1) C ((zs.map (Value.int .u16)).zipIdx)=(zs.map (Value.int .u16)).toArray:=by
 have h1:=Great.foldl_set 0 (zs.map (Value.int .u16)) 0 C;simp only [Nat.zero_add] at h1;apply Array.ext_getElem?;intro k;rw [h1.2 k];by_cases hk:k<64
 ·rw [if_pos (by simp; omega)]; simp
 ·rw [if_neg (by omega)];rw [Array.getElem?_eq_none (by omega),Array.getElem?_eq_none (by simp; omega)]
theorem z1C:(prog.info? 109).map (fun i=>(i.size,i.zero.map (·.cells.size)))=some (64,some 64):=by kernel_rfl
theorem z1D:∃ i z,prog.info? 109=some i/\i.zero=some z/\i.size=64/\i.bytes=128/\z.cells.size=64:=by
 have h:(prog.info? 109).map (fun i=>(i.size,i.bytes,i.zero.map (·.cells.size)))=some (64,128,some 64):=(by kernel_rfl);obtain ⟨i,hi,h1⟩:=Option.map_eq_some_iff.1 h;simp only [Prod.mk.injEq] at h1;obtain ⟨h1,h2,h3⟩:=h1;obtain ⟨z,hz,co⟩:=Option.map_eq_some_iff.1 h3;exact ⟨i,z,hi,hz,h1,h2,co⟩
def Ix (w:World) (g:Nat) (xs:List Int):Prop:=xs.length=17408/\w.heap[g]?=some (.cells (arrA xs) 107 (0,0))
theorem Ix.lt {w:World} {g:Nat} {xs:List Int} (h:Ix w g xs):g<w.heap.size:=(Array.getElem?_eq_some_iff.1 h.2).1
theorem Ix.cell {w:World} {g:Nat} {xs:List Int} (h:Ix w g xs) {i:Nat} (hi:i<17408):w.cell? ⟨g,i,none⟩=some (.int .u16 (xs.getD i 0)):=by
 have hl:=h.1;rw [cell_of_row _ _ _ _ _ _ h.2];simp [arrA,List.getD,show i<xs.length by omega]
theorem Ix.frozen {w:World} {g:Nat} {xs:List Int} (h:Ix w g xs) (i:Nat):w.frozen? ⟨g,i,none⟩=false:=frozen_of_row _ _ _ _ _ h.2
theorem Ix.set {w:World} {g:Nat} {xs:List Int} (h:Ix w g xs) (i:Nat) (v:Int):Ix (w.setCell ⟨g,i,none⟩ (.int .u16 v)) g (xs.set i v):=by
 refine ⟨by simp [h.1],?_⟩;rw [heap_setCell_same w g i _ _ _ h.2];simp [arrA,List.map_set]
def Tb (w:World) (g gi:Nat) (bv:Value) (d:Int):Prop:=w.heap[g]?=some (.cells #[.slice (some ⟨gi,0,none⟩) 17408 17408,bv,.int .i64 d] 106 (0,0))
theorem Tb.lt {w:World} {g gi:Nat} {bv:Value} {d:Int} (h:Tb w g gi bv d):g<w.heap.size:=(Array.getElem?_eq_some_iff.1 h).1
theorem Tb.cells {w:World} {g gi:Nat} {bv:Value} {d:Int} (h:Tb w g gi bv d):w.cell? ⟨g,0,none⟩=some (.slice (some ⟨gi,0,none⟩) 17408 17408)/\w.cell? ⟨g,1,none⟩=some bv/\w.cell? ⟨g,2,none⟩=some (.int .i64 d) :=
 ⟨by rw [cell_of_row _ _ _ _ _ _ h]; rfl,by rw [cell_of_row _ _ _ _ _ _ h]; rfl,by rw [cell_of_row _ _ _ _ _ _ h]; rfl⟩
theorem Tb.frozen {w:World} {g gi:Nat} {bv:Value} {d:Int} (h:Tb w g gi bv d) (i:Nat):w.frozen? ⟨g,i,none⟩=false:=frozen_of_row _ _ _ _ _ h
theorem Tb.set {w:World} {g gi:Nat} {bv:Value} {d:Int} (h:Tb w g gi bv d) (cc:Value):Tb (w.setCell ⟨g,1,none⟩ cc) g gi cc d:=by
 unfold Tb at h ⊢;rw [heap_setCell_same w g 1 _ _ _ h]; rfl
structure Keeps (w w':World) (row:Option Nat):Prop where
 block:∀ k,k<w.heap.size->some k≠row->w'.heap[k]?=w.heap[k]?
theorem Keeps.of_below {w w':World} (h:Bw w w') (row:Option Nat):Keeps w w' row:=⟨fun k hk _=>h.block k hk⟩
theorem Keeps.of_grown {w w':World} {row:Option Nat} (h:w.grownBy w' row):Keeps w w' row:=⟨h.block⟩
theorem Keeps.of_set (w:World) (a:Addr) (v:Value):Keeps w (w.setCell a v) (some a.block):=⟨fun k _ aq=>heap_setCell_other w a k v (fun e=>aq (by rw [e]))⟩
theorem Ix.keep {w w':World} {g:Nat} {xs:List Int} {row:Option Nat} (h:Ix w g xs) (hk:Keeps w w' row) (aq:some g≠row):Ix w' g xs:=⟨h.1,by rw [hk.block g h.lt aq]; exact h.2⟩
theorem Tb.keep {w w':World} {g gi:Nat} {bv:Value} {d:Int} {row:Option Nat} (h:Tb w g gi bv d) (hk:Keeps w w' row) (aq:some g≠row):Tb w' g gi bv d:=by
 have hl:=h.lt;unfold Tb at h ⊢;rw [hk.block g hl aq]; exact h
theorem Bk.keep {w w':World} {g:Nat} {zs:List Int} {row:Option Nat} (h:Bk w g zs) (hk:Keeps w w' row) (aq:some g≠row):Bk w' g zs:=by
 have hl:=h.lt;unfold Bk at h ⊢;rw [hk.block g hl aq]; exact h
theorem Ob.keep {e:TypeId} {w w':World} {B:Nat} {v:Value} {bs:List (List Int)} {row:Option Nat} (h:Ob e w B v bs) (hk:Keeps w w' row) (aq:∀ k,row=some k->k<B):Ob e w' B v bs:=by
 refine ⟨h.1,?_⟩;obtain ⟨h1,h2 | ⟨g,cap,cur,hv,hg,hh,r⟩⟩:=h.2
 ·exact ⟨h1,.inl h2⟩
 ·refine ⟨h1,.inr ⟨g,cap,cur,hv,hg,?_,r⟩⟩;rw [hk.block g (Array.getElem?_eq_some_iff.1 hh).1 ?_]
  ·exact hh
  ·intro e; have:=aq g e.symm; omega
theorem x2b {w w':World} {b n:Nat} {D:DataW Unit} {row:Option Nat} (h:w.ownsMap prog 109 (plainElem prog 107) b n D) (hk:Keeps w w' row) (aq:some b≠row):w'.ownsMap prog 109 (plainElem prog 107) b n D:=by
 have hl:=h.lt;obtain ⟨es,be,hb,r⟩:=h;exact ⟨es,be,by rw [hk.block b hl aq]; exact hb,r⟩
theorem below_grown {B:Nat} {w w1 w2:World} {row:Option Nat} (h:Below B w w1) (hg:w1.grownBy w2 row) (hB:B<=w1.heap.size) (hr:∀ k,row=some k->B<=k):Below B w w2:=h.grown hg hB hr
def x4l (w:World) (rs:List Tri.Rg) (d:Int) (e:Ending) (w':World):Prop:=∃ a,e=.returned (.pointer (some a))/\T4 w' w.heap.size (.pointer (some a)) rs d/\Below w.heap.size w w'
def bsAt (f:Int->Int) (p:Nat):List (List Int):=Tri.blkA [] ((Tri.pcs f).take p)
theorem y8w (f:Int->Int) (p:Nat) (hp:p<17408):(Tri.pcs f).getD p []=Tri.blk f p:=by
 simp [Tri.pcs,List.getD,hp]
theorem y6j (f:Int->Int):bsAt f 17408=Tri.bls f:=by
 unfold bsAt Tri.bls;rw [List.take_of_length_le (by rw [Tri.x3A]; omega)]
theorem x7w (f:Int->Int) (p:Nat) (hp:p<17408):bsAt f (p+1)=Tri.push (bsAt f p) (Tri.blk f p):=by
 unfold bsAt;rw [Tri.x7v _ _ _ (by rw [Tri.x3A]; exact hp),y8w f p hp]
theorem y8n (f:Int->Int) (p:Nat) (hp:p<17408):(Tri.idx f).getD p 0=(bsAt f p).idxOf (Tri.blk f p):=by
 rw [Tri.idx,Tri.y4d _ _ _ (by rw [Tri.x3A]; exact hp),y8w f p hp]; rfl
theorem y6k (f:Int->Int) (p:Nat):(bsAt f p).length<=p:=by
 have:=(Tri.y0c [] ((Tri.pcs f).take p)).2;rw [List.length_take] at this;unfold bsAt;simp only [List.length_nil] at this;omega
theorem y1k (f:Int->Int) (p:Nat):(bsAt f p).Nodup:=Tri.y1j List.nodup_nil
theorem y3e {f:Int->Int} (h:∀ c,0<=f c/\f c<=65535) (p:Nat):x4y (bsAt f p):=by
 intro b hb;rcases Tri.blkA_sub hb with h1 | h1
 ·cases h1
 ·have h2:=List.mem_of_mem_take h1;rw [Tri.pcs,List.mem_map] at h2;obtain ⟨q,_,rfl⟩:=h2;exact y0d h q
theorem z0x {f:Int->Int} {p:Nat} (hp:p<17408) (hm:Tri.blk f p∈bsAt f p):bsAt f (p+1)=bsAt f p/\(Tri.idx f).getD p 0=(bsAt f p).idxOf (Tri.blk f p)/\(bsAt f p).idxOf (Tri.blk f p)<(bsAt f p).length :=
 ⟨by rw [x7w f p hp,Tri.y4T hm],y8n f p hp,List.idxOf_lt_length_iff.2 hm⟩
theorem y7I {f:Int->Int} {p:Nat} (hp:p<17408) (hm:Tri.blk f p ∉ bsAt f p):bsAt f (p+1)=bsAt f p++[Tri.blk f p]/\(Tri.idx f).getD p 0=(bsAt f p).length:=by
 refine ⟨by rw [x7w f p hp]; unfold Tri.push; rw [if_neg hm],?_⟩;rw [y8n f p hp];have h1:¬ (bsAt f p).idxOf (Tri.blk f p)<(bsAt f p).length:=fun h2=>hm (List.idxOf_lt_length_iff.1 h2);have h2:(bsAt f p).idxOf (Tri.blk f p)<=(bsAt f p).length:=List.idxOf_le_length;omega
theorem y9T (n:Nat):madeCells #[.int .u16 0] n=arrA (List.replicate n 0):=by
 apply Array.ext';rw [toList_madeCells_one];simp [arrA]
theorem z2t (w:World) (d:Int) (w3:World) (h:w3=((w.alloc (.cells (madeCells #[.int .u16 0] 17408) 107)).alloc (.cells #[.slice (some ⟨w.heap.size,0,none⟩) 17408 17408,.slice none 0 0,.int .i64 d] 106)).alloc (.map #[] 0)) :
  Bw w w3/\Ix w3 w.heap.size (List.replicate 17408 0)/\Tb w3 (w.heap.size+1) w.heap.size (.slice none 0 0) d/\w3.ownsMap prog 109 (plainElem prog 107) (w.heap.size+1+1) 0 (dat []):=by
 subst h;refine ⟨(((Below.refl _ w).alloc (l0r _) _).alloc (by simp) _).alloc (by simp; omega) _,⟨List.length_replicate,?_⟩,?_,?_⟩
 ·rw [Below.heap_alloc _ _ _ (by simp; omega),Below.heap_alloc _ _ _ (by simp),heap_alloc_last,y9T]
 ·unfold Tb;rw [Below.heap_alloc _ _ _ (by simp)];have:=heap_alloc_last (w.alloc (.cells (madeCells #[.int .u16 0] 17408) 107)) (.cells #[.slice (some ⟨w.heap.size,0,none⟩) 17408 17408,.slice none 0 0,.int .i64 d] 106);rwa [show (w.alloc (.cells (madeCells #[.int .u16 0] 17408) 107)).heap.size=w.heap.size+1 by simp] at this
 ·have:=World.ownsMap_made (H:=Unit) ((w.alloc (.cells (madeCells #[.int .u16 0] 17408) 107)).alloc (.cells #[.slice (some ⟨w.heap.size,0,none⟩) 17408 17408,.slice none 0 0,.int .i64 d] 106)) prog 109 (plainElem prog 107);rwa [show ((w.alloc (.cells (madeCells #[.int .u16 0] 17408) 107)).alloc (.cells #[.slice (some ⟨w.heap.size,0,none⟩) 17408 17408,.slice none 0 0,.int .i64 d] 106)).heap.size=w.heap.size+1+1 by simp] at this
theorem y9q (xs:List Int) (l:List Nat) (h:xs.length=l.length) (hx:∀ j,j<l.length->xs.getD j 0=((l.getD j 0:Nat):Int)):xs=l.map fun n:Nat=>(n:Int):=by
 apply List.ext_getElem (by rw [h,List.length_map]);intro j a b;have:=hx j (by rw [List.length_map] at b; exact b);rw [List.getElem_map];simp only [List.getD,List.getElem?_eq_getElem a,Option.getD_some] at this;rw [this,List.getElem?_eq_getElem (by rw [List.length_map] at b; exact b)];rfl
theorem y9A (l:List Nat) (h:∀ j,j<l.length->l.getD j 0<=65535):Fit .u16 (l.map fun n:Nat=>(n:Int)):=by
 intro z hz;obtain ⟨n,hn,rfl⟩:=List.mem_map.1 hz;obtain ⟨j,hj,rfl⟩:=List.getElem_of_mem hn;have h6:=h j hj;simp only [List.getD,List.getElem?_eq_getElem hj,Option.getD_some] at h6;simp [IntKind.min,IntKind.max,IntKind.signed,IntKind.bits];omega
theorem ix_ok (n:Nat) (hn:n<=100000) {wr:World} {B gI:Nat} (zs:List Int) (hB:B<=gI) (hl:zs.length=n) (hf:Fit .u16 zs) (hh:wr.heap[gI]?=some (.cells (arrA zs) 107 (0,0))):Ok .u16 107 wr B (.slice (some ⟨gI,0,none⟩) n n) zs:=by
 refine ⟨hf,by rw [List.length_map]; omega,?_⟩;rw [List.length_map,hl];refine ⟨by rw [List.length_map,Nat.mul_one,hl],.inr ⟨gI,n,arrA zs,rfl,hB,hh,l0r _,by unfold maxLen; omega,by rw [x1y,Nat.mul_one,hl],?_⟩⟩;rw [Nat.mul_one,List.take_of_length_le (by rw [Array.length_toList,x1y,hl]; omega)];simp [arrA]
theorem Ob.lower {e:TypeId} {w:World} {B B':Nat} {v:Value} {bs:List (List Int)} (h:Ob e w B v bs) (hb:B'<=B):Ob e w B' v bs:=by
 refine ⟨h.1,h.2.1,?_⟩;rcases h.2.2 with h | ⟨g,cap,cur,hv,hg,r⟩
 ·exact .inl h
 ·exact .inr ⟨g,cap,cur,hv,by omega,r⟩
theorem y4e (f:Int->Int) (j:Nat) (hj:j<(Tri.idx f).length):(Tri.idx f).getD j 0<=65535:=by
 have h1:=Tri.idx_len f;have h2:=Tri.y3d f;have h3:=(Tri.y3c f j (by omega)).2;omega
theorem fin4 {w wr:World} {rs:List Tri.Rg} {d:Int} {gI gT gM:Nat} {bv:Value} {xs:List Int} (hval:Tri.Val 0 rs) (hd:0<=d/\d<=65535) (h1:w.heap.size<=gI) (h2:w.heap.size<=gT) (h3:w.heap.size<=gM)
  (hI:Ix wr gI xs) (hx:∀ j,j<17408->xs.getD j 0=(((Tri.idx (Tri.get d rs)).getD j 0:Nat):Int)) (hT:Tb wr gT gI bv d) (hB:Ob 109 wr (gM+1) bv (bsAt (Tri.get d rs) 17408)) (hb:Bw w wr) :
  x4l w rs d (.returned (.pointer (some ⟨gT,0,none⟩))) wr:=by
 have bk:=Tri.idx_len (Tri.get d rs);have aW:=y9q xs (Tri.idx (Tri.get d rs)) (hI.1.trans bk.symm) (fun j hj=>hx j (by rw [bk] at hj; exact hj));have bM:=y9A (Tri.idx (Tri.get d rs)) (y4e (Tri.get d rs));have cl:=ix_ok 17408 (by omega) xs h1 hI.1 (by rw [aW]; exact bM) hI.2;rw [aW] at cl;rw [y6j] at hB;exact ⟨_,rfl,⟨hval,hd,gT,_,bv,rfl,h2,hT,cl,hB.lower (by omega)⟩,hb⟩
theorem y3s (v:Value) (rs:List Tri.Rg) (d:Int) (w:World) (hv:Sr w v rs) (hval:Tri.Val 0 rs) (hd:0<=d/\d<=65535) :
  Calls prog 196 #[v,.int .i64 d] w (x4l w rs d):=by
 have HV:=O hval;have cm:=O hv;have ar:Hid (∀ c,0<=Tri.get d rs c/\Tri.get d rs c<=65535):=fun c=>Tri.x7R hd hval;have bz:Hid (∀ wr gI gT gM bv xs,w.heap.size<=gI->w.heap.size<=gT->w.heap.size<=gM->Ix wr gI xs->(∀ j,j<17408->xs.getD j 0=(((Tri.idx (Tri.get d rs)).getD j 0:Nat):Int))->Tb wr gT gI bv d->Ob 109 wr (gM+1) bv (bsAt (Tri.get d rs) 17408)->Bw w wr->x4l w rs d (.returned (.pointer (some ⟨gT,0,none⟩))) wr):=fun wr gI gT gM bv xs a1 a2 a3 a4 a5 a6 a7 a8=>fin4 hval hd a1 a2 a3 a4 a5 a6 a7 a8
 have bx:Hid (∀ (k p:Nat),(∀ j,j<k->Tri.hi (rs.getD j (0,0,0))<64 * (p:Int))->Tri.blk (Tri.get d (rs.drop k)) p=Tri.blk (Tri.get d rs) p):=by
  intro k p h;unfold Tri.blk;refine List.map_congr_left fun i _=>?_;exact Tri.y6H k fun j hj _=>by have:=h j hj; omega
 have bc:Hid (∀ (u:Value) (k p:Nat) (w':World),Sr w' u (rs.drop k)->p<17408->Calls prog 236 #[u,.int .i64 ((p:Int) * 64),.int .i64 d] w' (y2I w' (Tri.blk (Tri.get d (rs.drop k)) p))):=fun u k p w' h1 h2=>z0E u _ d p w' h1 (Tri.y7P hval k) hd h2;obtain ⟨d1,d2⟩:=hd;have cC:=@run_makeMap prog;have cB:∀ w,(Instr.makeSlice 103 (.int .i64 17408) (.int .i64 17408)).run prog w=.ok (.slice (some ⟨w.heap.size,0,none⟩) 17408 17408) (w.alloc (.cells (madeCells #[.int .u16 0] 17408) 107)):=run_make_row' (P:=prog) 103 107 (.int .u16 0) 2 underlying103 Tryz.info107 rfl .i64 .i64 17408 (by omega) (by omega);have ca:=O (z2t w d);clear hv hval;generalize Tri.get d rs=f at *;go_enter func196,ntmps196;go_wp2;have bV:=V ca _ rfl;generalize ((w.alloc (.cells (madeCells #[.int .u16 0] 17408) 107)).alloc (.cells #[.slice (some ⟨w.heap.size,0,none⟩) 17408 17408,.slice none 0 0,.int .i64 d] 106)).alloc (.map #[] 0)=wz at *;clear ca cC cB;obtain ⟨gI,bt⟩:∃ g,g=w.heap.size:=⟨_,rfl⟩;obtain ⟨gT,bO⟩:∃ g,g=w.heap.size+1:=⟨_,rfl⟩;obtain ⟨gM,bN⟩:∃ g,g=w.heap.size+1+1:=⟨_,rfl⟩;obtain ⟨ci,bI,bK,bJ⟩:=bV;rw [<- bN] at bJ;rw [<- bO,<- bt] at bK;rw [<- bt] at bI;have hgIT:gI<gT:=(by omega);have hgTM:gT<gM:=(by omega);have aT:w.heap.size<=gI:=(by omega);rw [<- bN,<- bO,<- bt];clear bt bO bN;go_loopw [0,17] (fun l i wr=>∃ (p k:Nat) (bv:Value) (xs:List Int),i=.int .i64 p/\p<=17408/\Sr w l (rs.drop k)/\k<=rs.length/\(∀ j,j<k->Tri.hi (rs.getD j (0,0,0))<64 * (p:Int))/\Ix wr gI xs/\(∀ j,j<p->xs.getD j 0=(((Tri.idx f).getD j 0:Nat):Int))/\Tb wr gT gI bv d/\Ob 109 wr (gM+1) bv (bsAt f p)/\wr.ownsMap prog 109 (plainElem prog 107) gM p (dat (bsAt f p))/\Bw w wr) (fun _ i _=>17408 - (intOf i).toNat)
 case atStart=>exact ⟨0,0,_,_,rfl,by omega,by simpa using V cm,by omega,fun j hj=>by omega,bI,fun j hj=>by omega,bK,⟨fun b hb=>(by cases hb),World.ownsRow_nil _ _ _ _⟩,bJ,ci⟩
 case round =>
  clear ci bI bK bJ cm;obtain ⟨p,k,bv,xs,rfl,hp,hs,hk,bQ,hI,aW,hT,hB,hM,ah⟩:=hrel;by_cases hlt:p<17408
  ·have ce:Fi ((p:Int) * 64):=(by constructor <;> omega);have hin1:(0:Int)<=(p:Int):=(by omega);have hin2:(p:Int)<17408:=(by omega);have b9:=O (y4Y _ (rs.drop k) ((p:Int) * 64) w wr hs ah ce);have cu:=O aW;have HI:=O hI;have HT:=O hT;have HB:=O hB;have HM:=O hM;have b6:=O bQ;clear ce hs aW hI hT hB hM bQ;go_wp2_with fail;refine (V b9).mono ?_;rintro e w1 ⟨rfl,v1,k1,rfl,aV,hk1,ck⟩;clear b9;have aV:Sr w v1 (rs.drop (k+k1)):=(by rw [<- List.drop_drop]; exact aV);have hk1:k+k1<=rs.length:=by rw [List.length_drop] at hk1; omega
   have bP:∀ j,j<k+k1->Tri.hi (rs.getD j (0,0,0))<64 * (p:Int):=by
    intro j hj;by_cases hjk:j<k
    ·exact V b6 j hjk
    ·have:=ck (j - k) (by omega);rw [show (rs.drop k).getD (j - k) (0,0,0)=rs.getD j (0,0,0) by simp [List.getD,List.getElem?_drop,show k+(j - k)=j by omega]] at this;omega
   have bb:=V bc v1 (k+k1) p w1 (aV.below ah) hlt;rw [V bx _ _ bP] at bb;have bb:=O bb;have b0:=O bP;clear b6 ck bP;generalize k+k1=kk at *;go_wp2_with fail;refine (V bb).mono ?_;rintro e w2 ⟨rfl,aI⟩;clear bb;have an:Good (Tri.blk f p):=y0d (V ar) p;have bL:=y3e (V ar) p;have av:=O (z1s (bsAt f p) bL (y1k f p) (Tri.blk f p) an);have cx:=y6k f p;have bB:=O (fun hm=>z0x (f:=f) hlt hm);have aN:=O (fun hm=>y7I (f:=f) hlt hm);have ap:=y0B an;have h64:=an.1;have hszb:=ah.size;have cj:Bw w (w2.alloc (.cells (arrA (Tri.blk f p)) 109)):=(ah.trans (aI.mono ah.size)).alloc (Nat.le_trans ah.size aI.size) _;have K3:Keeps w1 (w2.alloc (.cells (arrA (Tri.blk f p)) 109)) none:=Keeps.of_below (aI.alloc aI.size _) none;have aA:=O ((V HI).keep K3 (by simp));have aG:=O ((V HT).keep K3 (by simp));have aD:=O ((V HB).keep K3 (fun k h=>by cases h));have aP:=x2b (V HM) K3 (by simp);have aQ:Bk (w2.alloc (.cells (arrA (Tri.blk f p)) 109)) w2.heap.size (Tri.blk f p):=Bk.new w2 _ _ rfl;have al:=aQ.box;have cD:=fun w=>y2w w (Tri.blk f p) h64;have hgMw:gM<w1.heap.size:=(V HM).lt;have hszw2:=aI.size;clear HI HT HB HM K3 aI ah;generalize Tri.blk f p=zs at *;generalize bsAt f p=bs at *;have cv:((arrA zs).toList:List Value)=zs.map (Value.int .u16):=(by simp [arrA]);have bm:(arrA zs).size=64:=(by rw [x1y,h64]);have aL:=O al;have aM:=O ap;have bF:=O aP;have bn:=O cj;have ba:=O aQ;clear al ap aP cj aQ
   set_option maxRecDepth 100000 in
   go_upto_region 9 with fail;clear cD cv bm;have aP:=V bF;have ap:=V aM;have al:=V aL;generalize w2.alloc (.cells (arrA zs) 109)=w3 at *;go_wp2_with (first | refine wpList_load_mid rfl 109 (.tmp 9) rfl w2.heap.size 0 rfl (zs.map (Value.int .u16)) _ al underlying109 rfl (x4T h64) ?_ | (at_lookup; refine wpList_lookup_own_ok_int _ rfl _ _ 280 rfl 109 107 .u16 x9Z underlying280 underlying107 (z0J _) gM p (dat bs) rfl aP _ (keyL zs) rfl ap ?_));intro c aB cn;have aA:=V aA;have aG:=V aG;have a9:=aD;have bq:=aA.cell (i:=p) hlt;have br:=aA.frozen p;have bl:∀ j,j<kk->Tri.hi (rs.getD j (0,0,0))<64 * ((p+1:Nat):Int):=fun j hj=>(by have:=V b0 j hj; omega);have bo:=O bl
   have bp:Hid (∀ n:Int,n=(((Tri.idx f).getD p 0:Nat):Int)->∀ j,j<p+1->(xs.set p n).getD j 0=(((Tri.idx f).getD j 0:Nat):Int)):=by
    intro n hn j hj;rw [x5r xs p j n (by rw [aA.1]; exact hlt)];by_cases hjp:j=p
    ·rw [if_pos hjp,hn,hjp]
    ·rw [if_neg hjp]; exact V cu j (by omega)
   clear bl b0;by_cases hm:zs∈bs
   ·obtain ⟨e1,e2,e3⟩:=V bB hm;have ax:Maps.has (dat bs) (keyL zs)=true:=by rw [(V av).1,d0t hm]
    have hc:c=(bs.idxOf zs:Int):=by
     rw [(V av).2 hm] at aB;simpa using aB.symm
    subst hc;rw [ax];have bd:=O (V bp (bs.idxOf zs:Int) (by rw [e2]));have cf:=aA.set p (bs.idxOf zs:Int);have K5:=Keeps.of_set w3 ⟨gI,p,none⟩ (.int .u16 (bs.idxOf zs:Int));have ch:=aG.keep K5 (by simp; omega);have cd:=(V aD).keep K5 (fun k h=>by cases h; simp; omega);have cg:=(x2b aP K5 (by simp; omega)).mono (Nat.le_succ p);have cw:=(V bn).setCell (p:=⟨gI,p,none⟩) aT (.int .u16 (bs.idxOf zs:Int));obtain ⟨y0,y1,y2⟩:=aG.cells;have cq:=O cf;have ct:=O ch;have cp:=O cd;have cr:=O cg;have E1:=O e1;have HI3:=O aA;clear aB cn ax av bB aN bp cf K5 ch cd cg e1 e2 bF aP aG aA al aL bn aD a9 ba ap aM hm cx bL;generalize (bs.idxOf zs:Int)=n at *;go_wp2
    go_roundw
    case rel=>exact ⟨p+1,kk,bv,xs.set p n,by go_num,by omega,aV,hk1,V bo,V cq,V bd,V ct,by rw [V E1]; exact V cp,by rw [V E1]; exact V cr,cw⟩
    case measure=>simp [intOf]; omega
   ·obtain ⟨e1,e2⟩:=V aN hm;have ax:Maps.has (dat bs) (keyL zs)=false:=(by rw [(V av).1,d0f hm]);rw [ax];have bd:=O (V bp (bs.length:Int) (by rw [e2]));have E1:=O e1;have aD:=V aD;obtain ⟨ao,ai,rfl,hcb1,hcb2⟩:=aD.sb.shape;obtain ⟨y0,y1,y2⟩:=aG.cells;have cz:(0:Int)<=(bs.length:Int):=(by omega);have cA:(bs.length:Int)<=65535:=(by omega);have cE:(Lit.int .u16 (bs.length:Int)).wf=true:=y8M ⟨cz,cA⟩;have bw:=O aD;have bG:=O aG;have bA:=O aA;clear aB cn ax av bB aN bp e1 e2 bF aG aA aL aD a9 aM bL bq br;go_wp2_with (first | refine wpList_load_mid rfl 109 (.tmp 9) rfl w2.heap.size 0 rfl (zs.map (Value.int .u16)) _ al underlying109 rfl (x4T h64) ?_ | (at_mapUpdate; refine wpList_mapUpdate_own _ rfl _ _ _ 280 rfl 109 107 x9Z underlying280 (plainElem prog 107) gM p (dat bs) rfl aP (by unfold maxLen; omega) _ _ (keyL zs) rfl rfl ap (.lit (.int .u16 (bs.length:Int))) [] (plainElem_int underlying107 cE) ?_));intro w4 aF bh;have K4:=Keeps.of_grown bh;have aH:=(V bG).keep K4 (by simp; omega);have aZ:=(V bA).keep K4 (by simp; omega);have bf:=(V bw).keep K4 (fun k h=>by cases h; omega);have bu:=(V ba).keep K4 (by simp; omega);have aJ:=below_grown (V bn) bh (V bn).size (fun k h=>by cases h; omega);rw [<- y0l] at aF;have az:=bf.2;have ad:=az.lt;obtain ⟨i0,z0,bR,bW,bX,bY,bZ⟩:=z1D;obtain ⟨x0,x1,x2⟩:=aH.cells;have hfz:=aH.frozen 1;have ak:=y1H #[.int .u16 0,.int .u16 0,.int .u16 0,.int .u16 0,.int .u16 0,.int .u16 0,.int .u16 0,.int .u16 0,.int .u16 0,.int .u16 0,.int .u16 0,.int .u16 0,.int .u16 0,.int .u16 0,.int .u16 0,.int .u16 0,.int .u16 0,.int .u16 0,.int .u16 0,.int .u16 0,.int .u16 0,.int .u16 0,.int .u16 0,.int .u16 0,.int .u16 0,.int .u16 0,.int .u16 0,.int .u16 0,.int .u16 0,.int .u16 0,.int .u16 0,.int .u16 0,.int .u16 0,.int .u16 0,.int .u16 0,.int .u16 0,.int .u16 0,.int .u16 0,.int .u16 0,.int .u16 0,.int .u16 0,.int .u16 0,.int .u16 0,.int .u16 0,.int .u16 0,.int .u16 0,.int .u16 0,.int .u16 0,.int .u16 0,.int .u16 0,.int .u16 0,.int .u16 0,.int .u16 0,.int .u16 0,.int .u16 0,.int .u16 0,.int .u16 0,.int .u16 0,.int .u16 0,.int .u16 0,.int .u16 0,.int .u16 0,.int .u16 0,.int .u16 0] rfl zs h64;have hgM4:=aF.lt;have bU:∀ v∈zs.map (Value.int .u16),v.oneCell'=true:=x4q .u16 zs;have bS:some gT≠(Value.slice ao bs.length ai).ownBlock:=fun e=>(by have:=(ad _ e.symm).1; omega);have bS:some gT≠(Value.slice ao bs.length ai).ownBlock:=fun e=>by have:=(ad _ e.symm).1; omega
    have cb:∀ (W w8:World) (o:Obj),W.heap=(w4.alloc o).heap->W.grownBy w8 (Value.slice ao bs.length ai).ownBlock->Keeps w4 w8 (Value.slice ao bs.length ai).ownBlock:=by
     intro W w8 o hW hg
     exact ⟨fun k hk aq=>by
      rw [hg.block k (by rw [hW]; simp; omega) aq,hW]
      exact Below.heap_alloc w4 o k hk⟩
    have aY:=O cb;have bE:=O bS
    have aO:Hid (∀ (w8:World) (x:Value),Tb w8 gT gI (.slice ao bs.length ai) d->∀ gg cap,x=.slice (some ⟨gg,0,none⟩) (bs.length+1) cap->(Instr.storeAt 104 (.pointer (some ⟨gT,1,none⟩)) x).run prog w8=.ok () (w8.setCell ⟨gT,1,none⟩ x)):=by
     intro w8 x am gg cap hx;subst hx;obtain ⟨_,q1,_⟩:=am.cells;have q2:=am.frozen 1;go_simp
    have bi:(Instr.loadAt 104 (.pointer (some ⟨gT,1,none⟩))).run prog w4.drew=.ok (.slice ao bs.length ai) w4.drew:=by
     have q1:w4.drew.cell? ⟨gT,1,none⟩=some (.slice ao bs.length ai):=x1;go_simp
    have aC:(Instr.loadAt 104 (.pointer (some ⟨gT,1,none⟩))).run prog (w4.drew.alloc (.cells (zs.map (Value.int .u16)).toArray 109))=.ok (.slice ao bs.length ai) (w4.drew.alloc (.cells (zs.map (Value.int .u16)).toArray 109)):=by
     have q1:(w4.drew.alloc (.cells (zs.map (Value.int .u16)).toArray 109)).cell? ⟨gT,1,none⟩=some (.slice ao bs.length ai):=by
      rw [((Below.refl _ w4.drew).alloc (l0r _) _).cell (x0a (w:=w4) x1)]; exact x1
     generalize w4.drew.alloc (.cells (zs.map (Value.int .u16)).toArray 109)=wq at *;go_simp
    have bj:=run_loadAt_mid (P:=prog) w4.drew w2.heap.size 0 109 (zs.map (Value.int .u16)) _ bu.box underlying109 rfl (x4T h64);have ak:=y2q 104 109 underlying104 z1C w4.drew zs h64;have ag:(w4.drew.alloc (.cells (zs.map (Value.int .u16)).toArray 109)).ownsRow (gM+1) 109 64 (.slice ao bs.length ai) bs.length (x1J bs):=World.ownsRow.alloc (w:=w4.drew) az _
    have af:∀ j u,(zs.map (Value.int .u16))[j]?=some u->(w4.drew.alloc (.cells (zs.map (Value.int .u16)).toArray 109)).cell? ((⟨w4.heap.size,0,none⟩:Addr).add j)=some u:=by
     intro j u hj;have h9:=heap_alloc_last w4.drew (.cells (zs.map (Value.int .u16)).toArray 109);rw [addr_add,Nat.zero_add,cell_of_row _ w4.heap.size j _ _ _ h9];simpa using hj
    have bT:(zs.map (Value.int .u16)).length=1 * 64:=(by simp; omega);have aj:gM+1<=(w4.drew.alloc (.cells (zs.map (Value.int .u16)).toArray 109)).heap.size:=(by have h9:w4.drew.heap.size=w4.heap.size:=rfl; simp; omega);have bH:(w4.drew.alloc (.cells (zs.map (Value.int .u16)).toArray 109)).heap.size=w4.heap.size+1:=(by have h9:w4.drew.heap.size=w4.heap.size:=rfl; simp);have bC:Hid (some gI≠(Value.slice ao bs.length ai).ownBlock):=fun e=>(by have:=(ad _ e.symm).1; omega);have bD:Hid (some gM≠(Value.slice ao bs.length ai).ownBlock):=fun e=>by have:=(ad _ e.symm).1; omega
    have aX:Hid (∀ (w8:World) (x:Value),w8.ownsRow (gM+1) 109 64 x (bs.length+1) (x1J bs++zs.map (Value.int .u16))->Ob 109 w8 (gM+1) x (bs++[zs])):=by
     intro w8 x h;refine ⟨fun b hb=>?_,?_⟩
     ·rcases List.mem_append.1 hb with h1 | h1
      ·exact bf.1 b h1
      ·simp at h1; subst h1; exact an
     ·rw [y1g,x6u,List.length_append]; exact h
    have ae:Hid (∀ (w8:World) (x:Value),Tb w8 gT gI (.slice ao bs.length ai) d->Ix w8 gI xs->w8.ownsMap prog 109 (plainElem prog 107) gM (p+1) (dat (bs++[zs]))->Ob 109 w8 (gM+1) x (bs++[zs])->Bw w w8 ->
      ((w8.setCell ⟨gT,1,none⟩ x).cell? ⟨gT,0,none⟩=some (.slice (some ⟨gI,0,none⟩) 17408 17408)/\(w8.setCell ⟨gT,1,none⟩ x).cell? ⟨gT,1,none⟩=some x/\(w8.setCell ⟨gT,1,none⟩ x).cell? ⟨gT,2,none⟩=some (.int .i64 d))/\(w8.setCell ⟨gT,1,none⟩ x).cell? ⟨gI,p,none⟩=some (.int .u16 (xs.getD p 0))/\(w8.setCell ⟨gT,1,none⟩ x).frozen? ⟨gI,p,none⟩=false /\
      (Ix ((w8.setCell ⟨gT,1,none⟩ x).setCell ⟨gI,p,none⟩ (.int .u16 (bs.length:Int))) gI (xs.set p (bs.length:Int))/\Tb ((w8.setCell ⟨gT,1,none⟩ x).setCell ⟨gI,p,none⟩ (.int .u16 (bs.length:Int))) gT gI x d/\Ob 109 ((w8.setCell ⟨gT,1,none⟩ x).setCell ⟨gI,p,none⟩ (.int .u16 (bs.length:Int))) (gM+1) x (bs++[zs]) /\
       ((w8.setCell ⟨gT,1,none⟩ x).setCell ⟨gI,p,none⟩ (.int .u16 (bs.length:Int))).ownsMap prog 109 (plainElem prog 107) gM (p+1) (dat (bs++[zs]))/\Bw w ((w8.setCell ⟨gT,1,none⟩ x).setCell ⟨gI,p,none⟩ (.int .u16 (bs.length:Int))))):=by
     intro w8 x a1 a2 a3 a4 a5;have b1:=a1.set x;have k1:=Keeps.of_set w8 ⟨gT,1,none⟩ x;have b2:=a2.keep k1 (by simp; omega);have b3:=x2b a3 k1 (by simp; omega);have b4:=a4.keep k1 (fun k h=>by cases h; simp; omega);have b5:=a5.setCell (p:=⟨gT,1,none⟩) (show w.heap.size<=gT by omega) x;have k2:=Keeps.of_set (w8.setCell ⟨gT,1,none⟩ x) ⟨gI,p,none⟩ (.int .u16 (bs.length:Int));exact ⟨b1.cells,b2.cell hlt,b2.frozen p,b2.set p _,b1.keep k2 (by simp; omega),b4.keep k2 (fun k h=>by cases h; simp; omega),x2b b3 k2 (by simp; omega),b5.setCell (p:=⟨gI,p,none⟩) aT _⟩
    have aR:w.heap.size<=w4.drew.heap.size:=aJ.size;have aU:w.heap.size<=gM+1:=(by omega);have aS:w.heap.size<=(w4.drew.alloc (.cells (zs.map (Value.int .u16)).toArray 109)).heap.size:=(by have h9:w4.drew.heap.size=w4.heap.size:=rfl; have:=aJ.size; simp; omega);clear al cb bS;go_wp2;refine wp_region_any (by kernel_rfl) ?_;change wpAny _ _ _ _ _ _ _ (World.drew _);refine wpAny_take (i:=0) (oi:=⟨some 46,_,_,_,_,_⟩) (v:=.pointer (some ⟨gT,0,none⟩)) rfl (by kernel_rfl) (by kernel_rfl) (by kernel_rfl) (fun _ _ _ h=>h) (Or.inl ⟨by rfl,?_⟩) ?_
    ·intro w; go_simp
    simp only [Act.put,sa9,sb9,sc9];refine wpAny_take (i:=1) (oi:=⟨some 47,_,_,_,_,_⟩) (v:=.pointer (some ⟨gT,0,none⟩)) rfl (by kernel_rfl) (by kernel_rfl) (by kernel_rfl) (fun _ _ _ h=>h) (Or.inl ⟨by rfl,?_⟩) ?_
    ·intro w; go_simp
    simp only [Act.put,sa9,sb9,sc9];refine wpAny_take (i:=2) (oi:=⟨some 48,_,_,_,_,_⟩) (v:=.pointer (some ⟨gT,0,none⟩)) rfl (by kernel_rfl) (by kernel_rfl) (by kernel_rfl) (fun _ _ _ h=>h) (Or.inl ⟨by rfl,?_⟩) ?_
    ·intro w; go_simp
    simp only [Act.put,sa9,sb9,sc9];refine wpAny_take (i:=3) (oi:=⟨some 49,_,_,_,_,_⟩) (v:=.pointer (some ⟨gT,1,none⟩)) rfl (by kernel_rfl) (by kernel_rfl) (by kernel_rfl) (fun _ _ _ h=>h) (Or.inl ⟨by rfl,?_⟩) ?_
    ·intro w; go_simp
    simp only [Act.put,sa9,sb9,sc9];refine wpAny_ready (rs:=[4,5]) (by kernel_rfl) (by simp) ?_;refine AllReady.cons (o:=⟨some 50,_,_,_,_,_⟩) rfl (fun K hK=>?_) (AllReady.cons (o:=⟨some 51,_,_,_,_,_⟩) rfl (fun K hK=>?_) AllReady.nil)
    ·refine x1D (by rfl) 104 (.tmp 49) (by rfl) _ _ (by rfl) bi ?_;refine hK _ _ ?_;clear hK K;simp only [Act.put,sa9,sb9,sc9];refine wpAny_ready (rs:=[5]) (by kernel_rfl) (by simp) ?_;refine AllReady.cons (o:=⟨some 51,_,_,_,_,_⟩) rfl (fun K hK=>?_) AllReady.nil;refine x1D (by rfl) 109 (.tmp 9) (by rfl) _ _ (by rfl) bj ?_;refine hK _ _ ?_;clear hK K;simp only [Act.put,sa9,sb9,sc9];refine wpAny_ready (rs:=[6]) (by kernel_rfl) (by simp) ?_;refine AllReady.cons (o:=⟨some 52,_,_,_,_,_⟩) rfl (fun K hK=>?_) AllReady.nil;refine x1S (by rfl) 104 (.tmp 51) (by rfl) _ _ (by rfl) ak ?_;refine hK _ _ ?_;clear hK K;simp only [Act.put,sa9,sb9,sc9];refine wpAny_ready (rs:=[7]) (by kernel_rfl) (by simp) ?_;refine AllReady.cons (o:=⟨some 53,_,_,_,_,_⟩) rfl (fun K hK=>?_) AllReady.nil;refine step_append_lies _ (by rfl) _ _ _ (by rfl) (gM+1) 109 i0 z0 64 128 underlying104 bR bW bX bY bZ (by omega) (.slice ao bs.length ai) bs.length (x1J bs) (by rfl) ag ⟨w4.heap.size,0,none⟩ 1 1 (zs.map (Value.int .u16)) (by rfl) bT af bU (by omega) (by unfold maxLen; omega) (by omega) aj (w4.heap.size+1) bH ?_;intro gg cap w8 ac aa aB ay;refine hK _ _ ?_;clear hK K;simp only [Act.put,sa9,sb9,sc9];refine wpAny_take (i:=8) (oi:=⟨some 54,_,_,_,_,_⟩) (v:=.pointer (some ⟨gT,0,none⟩)) rfl (by kernel_rfl) (by kernel_rfl) (by kernel_rfl) (fun _ _ _ h=>h) (Or.inl ⟨by rfl,?_⟩) ?_
     ·intro w; go_simp
     simp only [Act.put,sa9,sb9,sc9];refine wpAny_take (i:=9) (oi:=⟨some 55,_,_,_,_,_⟩) (v:=.pointer (some ⟨gT,1,none⟩)) rfl (by kernel_rfl) (by kernel_rfl) (by kernel_rfl) (fun _ _ _ h=>h) (Or.inl ⟨by rfl,?_⟩) ?_
     ·intro w; go_simp
     simp only [Act.put,sa9,sb9,sc9];refine wpAny_ready (rs:=[10]) (by kernel_rfl) (by simp) ?_;refine AllReady.cons (o:=⟨none,_,_,_,_,_⟩) rfl (fun K hK=>?_) AllReady.nil;have am:=aH.keep (V aY _ _ (.cells (zs.map (Value.int .u16)).toArray 109) (by rfl) aa) (V bE);refine x3K (by rfl) 104 (.tmp 55) (.tmp 53) (by rfl) (.pointer (some ⟨gT,1,none⟩)) (.slice (some ⟨gg,0,none⟩) (bs.length+1) cap) (by rfl) (by rfl) (V aO w8 _ am gg cap rfl) ?_;refine hK _ _ ?_;clear hK K;simp only [Act.put];refine wpAny_done (by kernel_rfl) ?_ _;have au:=V aY _ _ (.cells (zs.map (Value.int .u16)).toArray 109) (by rfl) aa;have aE:=V aX w8 _ ac;have aK:Bw w w8:=(aJ.drew.alloc aR _).grown aa aS (fun k hk=>Nat.le_trans aU (ad k hk).1);have aw:=V ae w8 _ am (aZ.keep au (V bC)) (x2b aF au (V bD)) aE aK;generalize w8.setCell ⟨gT,1,none⟩ (.slice (some ⟨gg,0,none⟩) (bs.length+1) cap)=w9 at *;obtain ⟨⟨y0,y1,y2⟩,bq,br,ab⟩:=aw;have HL:=O ab;clear ab ac aa aB ay am au aE aK aJ aZ aH bf aF az ad bu bi aC bj ak ag af aX ae x0 x1 x2 bh K4;generalize xs.getD p 0=old at *;go_wp2
     go_roundw
     case rel=>exact ⟨p+1,kk,_,xs.set p (bs.length:Int),by go_num,by omega,aV,hk1,V bo,(V HL).1,V bd,(V HL).2.1,by rw [V E1]; exact (V HL).2.2.1,by rw [V E1]; exact (V HL).2.2.2.1,(V HL).2.2.2.2⟩
     case measure=>simp [intOf]; omega
    ·refine x1D (by rfl) 109 (.tmp 9) (by rfl) _ _ (by rfl) bj ?_;refine hK _ _ ?_;clear hK K;simp only [Act.put,sa9,sb9,sc9];refine wpAny_ready (rs:=[4,6]) (by kernel_rfl) (by simp) ?_;refine AllReady.cons (o:=⟨some 50,_,_,_,_,_⟩) rfl (fun K hK=>?_) (AllReady.cons (o:=⟨some 52,_,_,_,_,_⟩) rfl (fun K hK=>?_) AllReady.nil)
     ·refine x1D (by rfl) 104 (.tmp 49) (by rfl) _ _ (by rfl) bi ?_;refine hK _ _ ?_;clear hK K;simp only [Act.put,sa9,sb9,sc9];refine wpAny_ready (rs:=[6]) (by kernel_rfl) (by simp) ?_;refine AllReady.cons (o:=⟨some 52,_,_,_,_,_⟩) rfl (fun K hK=>?_) AllReady.nil;refine x1S (by rfl) 104 (.tmp 51) (by rfl) _ _ (by rfl) ak ?_;refine hK _ _ ?_;clear hK K;simp only [Act.put,sa9,sb9,sc9];refine wpAny_ready (rs:=[7]) (by kernel_rfl) (by simp) ?_;refine AllReady.cons (o:=⟨some 53,_,_,_,_,_⟩) rfl (fun K hK=>?_) AllReady.nil;refine step_append_lies _ (by rfl) _ _ _ (by rfl) (gM+1) 109 i0 z0 64 128 underlying104 bR bW bX bY bZ (by omega) (.slice ao bs.length ai) bs.length (x1J bs) (by rfl) ag ⟨w4.heap.size,0,none⟩ 1 1 (zs.map (Value.int .u16)) (by rfl) bT af bU (by omega) (by unfold maxLen; omega) (by omega) aj (w4.heap.size+1) bH ?_;intro gg cap w8 ac aa aB ay;refine hK _ _ ?_;clear hK K;simp only [Act.put,sa9,sb9,sc9];refine wpAny_take (i:=8) (oi:=⟨some 54,_,_,_,_,_⟩) (v:=.pointer (some ⟨gT,0,none⟩)) rfl (by kernel_rfl) (by kernel_rfl) (by kernel_rfl) (fun _ _ _ h=>h) (Or.inl ⟨by rfl,?_⟩) ?_
      ·intro w; go_simp
      simp only [Act.put,sa9,sb9,sc9];refine wpAny_take (i:=9) (oi:=⟨some 55,_,_,_,_,_⟩) (v:=.pointer (some ⟨gT,1,none⟩)) rfl (by kernel_rfl) (by kernel_rfl) (by kernel_rfl) (fun _ _ _ h=>h) (Or.inl ⟨by rfl,?_⟩) ?_
      ·intro w; go_simp
      simp only [Act.put,sa9,sb9,sc9];refine wpAny_ready (rs:=[10]) (by kernel_rfl) (by simp) ?_;refine AllReady.cons (o:=⟨none,_,_,_,_,_⟩) rfl (fun K hK=>?_) AllReady.nil;have am:=aH.keep (V aY _ _ (.cells (zs.map (Value.int .u16)).toArray 109) (by rfl) aa) (V bE);refine x3K (by rfl) 104 (.tmp 55) (.tmp 53) (by rfl) (.pointer (some ⟨gT,1,none⟩)) (.slice (some ⟨gg,0,none⟩) (bs.length+1) cap) (by rfl) (by rfl) (V aO w8 _ am gg cap rfl) ?_;refine hK _ _ ?_;clear hK K;simp only [Act.put];refine wpAny_done (by kernel_rfl) ?_ _;have au:=V aY _ _ (.cells (zs.map (Value.int .u16)).toArray 109) (by rfl) aa;have aE:=V aX w8 _ ac;have aK:Bw w w8:=(aJ.drew.alloc aR _).grown aa aS (fun k hk=>Nat.le_trans aU (ad k hk).1);have aw:=V ae w8 _ am (aZ.keep au (V bC)) (x2b aF au (V bD)) aE aK;generalize w8.setCell ⟨gT,1,none⟩ (.slice (some ⟨gg,0,none⟩) (bs.length+1) cap)=w9 at *;obtain ⟨⟨y0,y1,y2⟩,bq,br,ab⟩:=aw;have HL:=O ab;clear ab ac aa aB ay am au aE aK aJ aZ aH bf aF az ad bu bi aC bj ak ag af aX ae x0 x1 x2 bh K4;generalize xs.getD p 0=old at *;go_wp2
      go_roundw
      case rel=>exact ⟨p+1,kk,_,xs.set p (bs.length:Int),by go_num,by omega,aV,hk1,V bo,(V HL).1,V bd,(V HL).2.1,by rw [V E1]; exact (V HL).2.2.1,by rw [V E1]; exact (V HL).2.2.2.1,(V HL).2.2.2.2⟩
      case measure=>simp [intOf]; omega
     ·refine x1S (by rfl) 104 (.tmp 51) (by rfl) _ _ (by rfl) ak ?_;refine hK _ _ ?_;clear hK K;simp only [Act.put,sa9,sb9,sc9];refine wpAny_ready (rs:=[4]) (by kernel_rfl) (by simp) ?_;refine AllReady.cons (o:=⟨some 50,_,_,_,_,_⟩) rfl (fun K hK=>?_) AllReady.nil;refine x1D (by rfl) 104 (.tmp 49) (by rfl) _ _ (by rfl) aC ?_;refine hK _ _ ?_;clear hK K;simp only [Act.put,sa9,sb9,sc9];refine wpAny_ready (rs:=[7]) (by kernel_rfl) (by simp) ?_;refine AllReady.cons (o:=⟨some 53,_,_,_,_,_⟩) rfl (fun K hK=>?_) AllReady.nil;refine step_append_lies _ (by rfl) _ _ _ (by rfl) (gM+1) 109 i0 z0 64 128 underlying104 bR bW bX bY bZ (by omega) (.slice ao bs.length ai) bs.length (x1J bs) (by rfl) ag ⟨w4.heap.size,0,none⟩ 1 1 (zs.map (Value.int .u16)) (by rfl) bT af bU (by omega) (by unfold maxLen; omega) (by omega) aj (w4.heap.size+1) bH ?_;intro gg cap w8 ac aa aB ay;refine hK _ _ ?_;clear hK K;simp only [Act.put,sa9,sb9,sc9];refine wpAny_take (i:=8) (oi:=⟨some 54,_,_,_,_,_⟩) (v:=.pointer (some ⟨gT,0,none⟩)) rfl (by kernel_rfl) (by kernel_rfl) (by kernel_rfl) (fun _ _ _ h=>h) (Or.inl ⟨by rfl,?_⟩) ?_
      ·intro w; go_simp
      simp only [Act.put,sa9,sb9,sc9];refine wpAny_take (i:=9) (oi:=⟨some 55,_,_,_,_,_⟩) (v:=.pointer (some ⟨gT,1,none⟩)) rfl (by kernel_rfl) (by kernel_rfl) (by kernel_rfl) (fun _ _ _ h=>h) (Or.inl ⟨by rfl,?_⟩) ?_
      ·intro w; go_simp
      simp only [Act.put,sa9,sb9,sc9];refine wpAny_ready (rs:=[10]) (by kernel_rfl) (by simp) ?_;refine AllReady.cons (o:=⟨none,_,_,_,_,_⟩) rfl (fun K hK=>?_) AllReady.nil;have am:=aH.keep (V aY _ _ (.cells (zs.map (Value.int .u16)).toArray 109) (by rfl) aa) (V bE);refine x3K (by rfl) 104 (.tmp 55) (.tmp 53) (by rfl) (.pointer (some ⟨gT,1,none⟩)) (.slice (some ⟨gg,0,none⟩) (bs.length+1) cap) (by rfl) (by rfl) (V aO w8 _ am gg cap rfl) ?_;refine hK _ _ ?_;clear hK K;simp only [Act.put];refine wpAny_done (by kernel_rfl) ?_ _;have au:=V aY _ _ (.cells (zs.map (Value.int .u16)).toArray 109) (by rfl) aa;have aE:=V aX w8 _ ac;have aK:Bw w w8:=(aJ.drew.alloc aR _).grown aa aS (fun k hk=>Nat.le_trans aU (ad k hk).1);have aw:=V ae w8 _ am (aZ.keep au (V bC)) (x2b aF au (V bD)) aE aK;generalize w8.setCell ⟨gT,1,none⟩ (.slice (some ⟨gg,0,none⟩) (bs.length+1) cap)=w9 at *;obtain ⟨⟨y0,y1,y2⟩,bq,br,ab⟩:=aw;have HL:=O ab;clear ab ac aa aB ay am au aE aK aJ aZ aH bf aF az ad bu bi aC bj ak ag af aX ae x0 x1 x2 bh K4;generalize xs.getD p 0=old at *;go_wp2
      go_roundw
      case rel=>exact ⟨p+1,kk,_,xs.set p (bs.length:Int),by go_num,by omega,aV,hk1,V bo,(V HL).1,V bd,(V HL).2.1,by rw [V E1]; exact (V HL).2.2.1,by rw [V E1]; exact (V HL).2.2.2.1,(V HL).2.2.2.2⟩
      case measure=>simp [intOf]; omega
  ·obtain rfl:p=17408:=(by omega);have HR:=V bz wr gI gT gM bv xs aT (by omega) (by omega) hI aW hT hB ah;clear hI aW hT hB hM ah hs bQ;go_wp2;go_ret;exact HR
end Go.Proofs.YtkglkajjofidoaaGreatDoor.Ti
namespace Go.Proofs.YtkglkajjofidoaaGreatDoor.Ti
open Go.Proofs.Tryz
open Go.RowKit
theorem T4.lower {w:World} {B B':Nat} {t:Value} {rs:List Tri.Rg} {d:Int} (h:T4 w B t rs d) (hb:B'<=B):T4 w B' t rs d:=by
 obtain ⟨h1,h2,g,iv,bv,h3,h4,h5,h6,h7⟩:=h;exact ⟨h1,h2,g,iv,bv,h3,by omega,h5,h6.lower hb,h7.lower hb⟩
theorem y8b (v:Value) (rs:List Tri.Rg) (d:Int) (w:World) (hv:Sr w v rs) (hd:Fi d):Calls prog 159 #[v,.int .i64 d] w (x4z (fun w' t rs d=>T4 w' w.heap.size t rs d) w rs d):=by
 have H1:=O (x9k v rs d w hv hd)
 have H2:Hid (∀ w1,Bw w w1->(Tri.check d rs).2=0->Calls prog 196 #[v,.int .i64 d] w1 (x4l w1 rs d)):=by
  intro w1 hb h0;obtain ⟨h1,h2⟩:=Tri.x3b.1 h0;exact y3s v rs d w1 (hv.below hb) h1 h2
 have hz:Hid ((Tri.check d rs).2=0->(Tri.check d rs).1=0):=Tri.x3w 0 none rs;have b7:Hid (∀ w',Bw w w'->(Tri.check d rs).2≠0->x4z (fun w' t rs d=>T4 w' w.heap.size t rs d) w rs d (.returned (.tuple #[.pointer none,.int .i64 (Tri.check d rs).1,.int .i64 (Tri.check d rs).2])) w'):=fun w' hb hn=>⟨hb,.inr ⟨hn,rfl⟩⟩;have b8:Hid (∀ w' a,Bw w w'->(Tri.check d rs).2=0->T4 w' w.heap.size (.pointer (some a)) rs d->x4z (fun w' t rs d=>T4 w' w.heap.size t rs d) w rs d (.returned (.tuple #[.pointer (some a),.int .i64 0,.int .i64 0])) w'):=fun w' a hb hn hT=>⟨hb,.inl ⟨hn,a,rfl,hT⟩⟩;clear hv hd;generalize Tri.check d rs=q at *;obtain ⟨q1,q2⟩:=q;go_enter func159,ntmps159;go_wp2_with fail;refine (V H1).mono ?_;rintro e w1 ⟨rfl,bg⟩;clear H1;by_cases h0:q2=0
 ·subst h0;have HC:=O (V H2 w1 bg rfl);clear H2 b7;go_wp2_with fail;refine (V HC).mono ?_;rintro e w2 ⟨a,rfl,hT,aI⟩;clear HC;go_wp2;go_ret3;exact V b8 _ a (bg.trans (aI.mono bg.size)) (by first | rfl | trivial) (hT.lower bg.size)
 ·have h0':(q2 != 0)=true:=(by simp [h0]);clear H2 b8;go_wp2;go_ret3;exact V b7 _ bg h0
end Go.Proofs.YtkglkajjofidoaaGreatDoor.Ti
