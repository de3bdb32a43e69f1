import Derived.Test.YtbmckadcjdedcaaGreatDoorF19
import Derived.Deep.AppendLies
import Derived.Deep.DrawnRows
import Derived.Deep.OwnRows
import Derived.Deep.RegionHeld3
import Derived.Deep.RegionLaw
import Derived.Great.BuildSlice
set_option maxHeartbeats 2000000
set_option maxRecDepth 2000
namespace Go.Proofs.YtbmckadcjdedcaaGreatDoor
section
variable{p:Prop}
theorem S9z(h:p:=by rw[cell_of_row _ _ _ _ _ _ h];rfl):p:=h
theorem T5W(h:p:=by rw[List.length_map]at b;exact b):p:=h
theorem I8p(h:p:=by
 refine hK _ _ ?_;clear hK K;simp only[Act.put,sa9,sb9,sc9];refine wpAny_ready (rs:=[7]) f4A (by simp) ?_;refine AllReady.cons (o:=⟨some 53,_,_,_,_,_⟩) rfl (fun K hK=>?_) AllReady.nil;refine step_append_lies _ (by rfl) _ _ _ (by rfl) (gM+1) 272 i0 z0 64 128 underlying267 bO bU bV bX bY f6J (.slice ao bs.length J) bs.length (x2j bs) (by rfl) ab ⟨G.heap.size,0,none⟩ 1 1 (zs.map (Value.int .u16)) (by rfl) bR z bS f6J T7X f6J I (G.heap.size+1) bF ?_;intro r M y C B N t;refine hK _ _ ?_;clear hK K;simp only[Act.put,sa9,sb9,sc9];refine wpAny_take (i:=8) (oi:=⟨some 54,_,_,_,_,_⟩) (v:=.pointer (some ⟨D,0,none⟩)) rfl f4A f4A f4A (fun _ _ _ h=>h) (Or.inl ⟨by rfl,?_⟩) ?_
 ·exact M9i
 simp only[Act.put,sa9,sb9,sc9];refine wpAny_take (i:=9) (oi:=⟨some 55,_,_,_,_,_⟩) (v:=.pointer (some ⟨D,1,none⟩)) rfl f4A f4A f4A (fun _ _ _ h=>h) (Or.inl ⟨by rfl,?_⟩) ?_
 ·exact M9i
 simp only[Act.put,sa9,sb9,sc9];refine wpAny_ready (rs:=[10]) f4A (by simp) ?_;refine AllReady.cons (o:=⟨none,_,_,_,_,_⟩) rfl (fun K hK=>?_) AllReady.nil;have Y:=aq.keep (V aD _ _ (.cells (zs.map (Value.int .u16)).toArray 272) (by rfl) B) (V bC);refine x5i (by rfl) 267 (.tmp 55) (.tmp 53) (by rfl) (.pointer (some ⟨D,1,none⟩)) (.slice (some ⟨r,0,none⟩) (bs.length+1) M) (by rfl) (by rfl) (V aM y _ Y r M rfl) ?_;refine hK _ _ ?_;clear hK K;simp only[Act.put];refine wpAny_done f4A ?_ _;have ae:=V aD _ _ (.cells (zs.map (Value.int .u16)).toArray 272) (by rfl) B;have aj:=V aC y _ C;have Z:Bw w y:=(ar.drew.alloc aR _).grown B aS (fun k hk=>Nat.le_trans aV (X k hk).1);have q:=V m y _ Y (aF.keep ae (V bA)) (x2F s ae (V bB)) aj Z;generalize y.setCell ⟨D,1,none⟩ (.slice (some ⟨r,0,none⟩) (bs.length+1) M)=w9 at *;obtain⟨⟨y0,y1,y2⟩,be,bh,Q⟩:=q;have HL:=O Q;clear Q C B N t Y ae aj Z ar aF aq aP s ay X bm aW aA aX F ab z aC m x0 x1 x2 aT K4;generalize L.getD p 0=cL at *;go_wp2
 go_roundw
 case rel=>exact⟨p+1,kk,_,L.set p (bs.length:Int),by go_num,f6J,T,aH,V aZ,(V HL).1,V aO,(V HL).2.1,by rw[V E1];exact(V HL).2.2.1,by rw[V E1];exact(V HL).2.2.2.1,(V HL).2.2.2.2⟩
 case measure=>exact g7W):p:=h
theorem f5W(h:p:=by first| rfl | trivial):p:=h
theorem i0Q(h:p:=by refine hK _ _ ?_;clear hK K;simp only[Act.put,sa9,sb9,sc9];refine wpAny_ready (rs:=[6]) f4A (by simp) ?_;refine AllReady.cons (o:=⟨some 52,_,_,_,_,_⟩) rfl (fun K hK=>?_) AllReady.nil;refine x2u (by rfl) 267 (.tmp 51) (by rfl) _ _ (by rfl) F ?_;exact I8p):p:=h
theorem s7M(h:p:=by have:=(X _ e.symm).1;exact f6J):p:=h
theorem g4F(h:p:=by cases h;exact P8R):p:=h
end
end Go.Proofs.YtbmckadcjdedcaaGreatDoor
namespace Go.Proofs.YtbmckadcjdedcaaGreatDoor.Ti
open Go.Proofs.Tryz
open Go.RowKit Go.Maps
set_option linter.unusedSimpArgs false
theorem z7f w:(zeroValue 270).run prog w=.ok (.int .u16 0) w:=(zero_of_info (n:=1) f4x).1 w
theorem y6v(w:World) zs(h:zs.length=64):(storeCells ⟨w.heap.size,0,none⟩ (zs.map (Value.int .u16)) 0).run prog (w.alloc (.cells #[.int .u16 0,.int .u16 0,.int .u16 0,.int .u16 0,.int .u16 0,.int .u16 0,.int .u16 0,.int .u16 0,.int .u16 0,.int .u16 0,.int .u16 0,.int .u16 0,.int .u16 0,.int .u16 0,.int .u16 0,.int .u16 0,.int .u16 0,.int .u16 0,.int .u16 0,.int .u16 0,.int .u16 0,.int .u16 0,.int .u16 0,.int .u16 0,.int .u16 0,.int .u16 0,.int .u16 0,.int .u16 0,.int .u16 0,.int .u16 0,.int .u16 0,.int .u16 0,.int .u16 0,.int .u16 0,.int .u16 0,.int .u16 0,.int .u16 0,.int .u16 0,.int .u16 0,.int .u16 0,.int .u16 0,.int .u16 0,.int .u16 0,.int .u16 0,.int .u16 0,.int .u16 0,.int .u16 0,.int .u16 0,.int .u16 0,.int .u16 0,.int .u16 0,.int .u16 0,.int .u16 0,.int .u16 0,.int .u16 0,.int .u16 0,.int .u16 0,.int .u16 0,.int .u16 0,.int .u16 0,.int .u16 0,.int .u16 0,.int .u16 0,.int .u16 0] 272))=.ok () (w.alloc (.cells (arrA zs) 272)):=by
 have Z:=run_storeCells_new (P:=prog) w 272 #[.int .u16 0,.int .u16 0,.int .u16 0,.int .u16 0,.int .u16 0,.int .u16 0,.int .u16 0,.int .u16 0,.int .u16 0,.int .u16 0,.int .u16 0,.int .u16 0,.int .u16 0,.int .u16 0,.int .u16 0,.int .u16 0,.int .u16 0,.int .u16 0,.int .u16 0,.int .u16 0,.int .u16 0,.int .u16 0,.int .u16 0,.int .u16 0,.int .u16 0,.int .u16 0,.int .u16 0,.int .u16 0,.int .u16 0,.int .u16 0,.int .u16 0,.int .u16 0,.int .u16 0,.int .u16 0,.int .u16 0,.int .u16 0,.int .u16 0,.int .u16 0,.int .u16 0,.int .u16 0,.int .u16 0,.int .u16 0,.int .u16 0,.int .u16 0,.int .u16 0,.int .u16 0,.int .u16 0,.int .u16 0,.int .u16 0,.int .u16 0,.int .u16 0,.int .u16 0,.int .u16 0,.int .u16 0,.int .u16 0,.int .u16 0,.int .u16 0,.int .u16 0,.int .u16 0,.int .u16 0,.int .u16 0,.int .u16 0,.int .u16 0,.int .u16 0] (arrA zs) (by rw[x1T,h];exact y8J) (by rw[x1T,h];rfl) (x8G zs);simpa[arrA]using Z
theorem y6k t e(W:prog.underlying t=some (.slice e))(hi:(prog.info? e).map (fun i=>(i.size,i.zero.map (·.cells.size)))=some (64,some 64)) w(zs:List Int)(h:zs.length=64) :
  (Instr.buildSlice t 1 #[(0,.agg (zs.map (Value.int .u16)).toArray)]).run prog w=.ok (.slice (some ⟨w.heap.size,0,none⟩) 1 1) (w.alloc (.cells (zs.map (Value.int .u16)).toArray e)):=by
 obtain⟨A,P,Z⟩:=Option.map_eq_some_iff.1 hi;simp only[Prod.mk.injEq]at Z;obtain⟨Z,D⟩:=Z;obtain⟨z,o,k⟩:=Option.map_eq_some_iff.1 D;refine run_buildSlice w t e 1 _ _ A z W P o f0R f0R ?_;rw[Z];have:=Great.fill_whole (s:=64) e8M [Value.agg (zs.map (Value.int .u16)).toArray] ((Array.range (1*64)).map (z.cells[·%z.cells.size]!)) (fun v N=>by simp at N;subst N;simp[Value.cells,h]) M7L;simpa[Value.cells]using this
theorem y5q C(y:C.size=64)(zs:List Int)(h:zs.length=64):List.foldl (fun(cs:Array Value) (x:Value×Nat)=>cs.setIfInBounds x.2 x.1) C ((zs.map (Value.int .u16)).zipIdx)=(zs.map (Value.int .u16)).toArray:=by
 have Z:=Great.foldl_set 0 (zs.map (Value.int .u16)) 0 C;simp only[Nat.zero_add]at Z;apply Array.ext_getElem?;intro k;rw[Z.2 k];by_cases G:k<64
 ·rw[if_pos P8P];simp
 ·grind
theorem z8t:(prog.info? 272).map (fun i=>(i.size,i.zero.map (·.cells.size)))=some (64,some 64):=f4x
theorem z8u:∃i z,prog.info? 272=some i/\i.zero=some z/\i.size=64/\i.bytes=128/\z.cells.size=64:=by
 have h:(prog.info? 272).map (fun i=>(i.size,i.bytes,i.zero.map (·.cells.size)))=some (64,128,some 64):=f4x;exact w4S
def Ix(w:World)(g:Nat)(xs:List Int):Prop:=xs.length=17408/\w.heap[g]?=some (.cells (arrA xs) 270 (0,0))
theorem Ix.lt{w g xs}(h:Ix w g xs):g<w.heap.size:=(Array.getElem?_eq_some_iff.1 h.2).1
theorem Ix.cell{w g xs}(h:Ix w g xs){i}(hi:i<17408):w.cell? ⟨g,i,none⟩=some (.int .u16 (xs.getD i 0)):=by
 have S:=h.1;rw[cell_of_row _ _ _ _ _ _ h.2];simp[arrA,List.getD,(f6J:i<xs.length)]
theorem Ix.frozen{w g xs}(h:Ix w g xs) i:w.frozen? ⟨g,i,none⟩=false:=frozen_of_row _ _ _ _ _ h.2
theorem Ix.set{w g xs}(h:Ix w g xs) i v:Ix (w.setCell ⟨g,i,none⟩ (.int .u16 v)) g (xs.set i v):=by
 refine⟨by simp[h.1],?_⟩;rw[heap_setCell_same w g i _ _ _ h.2];simp[arrA,List.map_set]
def Tb(w:World)(g gi:Nat)(bv:Value)(d:Int):Prop:=w.heap[g]?=some (.cells #[.slice (some ⟨gi,0,none⟩) 17408 17408,bv,.int .i64 d] 269 (0,0))
theorem Tb.lt{w g gi bv d}(h:Tb w g gi bv d):g<w.heap.size:=(Array.getElem?_eq_some_iff.1 h).1
theorem Tb.cells{w g gi bv d}(h:Tb w g gi bv d):w.cell? ⟨g,0,none⟩=some (.slice (some ⟨gi,0,none⟩) 17408 17408)/\w.cell? ⟨g,1,none⟩=some bv/\w.cell? ⟨g,2,none⟩=some (.int .i64 d) :=
 ⟨S9z,S9z,S9z⟩
theorem Tb.frozen{w g gi bv d}(h:Tb w g gi bv d) i:w.frozen? ⟨g,i,none⟩=false:=frozen_of_row _ _ _ _ _ h
theorem Tb.set{w g gi bv d}(h:Tb w g gi bv d) bv':Tb (w.setCell ⟨g,1,none⟩ bv') g gi bv' d:=by
 unfold Tb at h ⊢;rw[heap_setCell_same w g 1 _ _ _ h];rfl
structure Keeps(w w':World)(row:Option Nat):Prop where
 block:∀k,k<w.heap.size->some k≠row->w'.heap[k]?=w.heap[k]?
theorem Keeps.of_below{w w'}(h:Bw w w') row:Keeps w w' row:=⟨fun k G _=>h.block k G⟩
theorem Keeps.of_grown{w w' row}(h:w.grownBy w' row):Keeps w w' row:=⟨h.block⟩
theorem Keeps.of_set w a v:Keeps w (w.setCell a v) (some a.block):=⟨fun k _ F=>heap_setCell_other w a k v (fun e=>F (by rw[e]))⟩
theorem Ix.keep{w w' g xs row}(h:Ix w g xs)(G:Keeps w w' row)(F:some g≠row):Ix w' g xs:=⟨h.1,by rw[G.block g h.lt F];exact h.2⟩
theorem Tb.keep{w w' g gi bv d}{row}(h:Tb w g gi bv d)(G:Keeps w w' row)(F:some g≠row):Tb w' g gi bv d:=by
 have S:=h.lt;unfold Tb at h ⊢;rw[G.block g S F];exact h
theorem Bk.keep{w w' g zs row}(h:Bk w g zs)(G:Keeps w w' row)(F:some g≠row):Bk w' g zs:=by
 have S:=h.lt;unfold Bk at h ⊢;rw[G.block g S F];exact h
theorem Ob.keep{e w w' B v}{bs row}(h:Ob e w B v bs)(G:Keeps w w' row)(F:∀k,row=some k->k<B):Ob e w' B v bs:=by
 refine⟨h.1,?_⟩;obtain⟨Z,D|⟨g,M,T,N,C,a,r⟩⟩:=h.2
 ·exact⟨Z,.inl D⟩
 ·refine⟨Z,.inr ⟨g,M,T,N,C,?_,r⟩⟩;rw[G.block g (Array.getElem?_eq_some_iff.1 a).1 ?_]
  ·exact a
  ·grind
theorem x2F{w w' b n}{D:DataW Unit}{row}(h:w.ownsMap prog 272 (plainElem prog 270) b n D)(G:Keeps w w' row)(F:some b≠row):w'.ownsMap prog 272 (plainElem prog 270) b n D:=by
 have S:=h.lt;obtain⟨A,clock,Y,r⟩:=h;exact⟨A,clock,by rw[G.block b S F];exact Y,r⟩
theorem below_grown{B w w1 w2 row}(h:Below B w w1)(C:w1.grownBy w2 row)(l:B<=w1.heap.size)(hr:∀k,row=some k->B<=k):Below B w w2:=h.grown C l hr
def x5O(w:World)(rs:List Tri.Rg)(d:Int)(e:Ending)(w':World):Prop:=∃a,e=.returned (.pointer (some a))/\T4 w' w.heap.size (.pointer (some a)) rs d/\Below w.heap.size w w'
def bsAt(f:Int->Int)(p:Nat):List (List Int):=Tri.blkA [] ((Tri.pcs f).take p)
theorem z4c f p(L:p<17408):(Tri.pcs f).getD p []=Tri.blk f p:=by
 simp[Tri.pcs,List.getD,L]
theorem z1t f:bsAt f 17408=Tri.bls f:=by
 unfold bsAt Tri.bls;rw[List.take_of_length_le (by rw[Tri.x4U];exact f6J)]
theorem y0d f p(L:p<17408):bsAt f (p+1)=Tri.push (bsAt f p) (Tri.blk f p):=by
 unfold bsAt;rw[Tri.y0c _ _ _ (by rw[Tri.x4U];exact L),z4c f p L]
theorem z3P f p(L:p<17408):(Tri.idx f).getD p 0=(bsAt f p).idxOf (Tri.blk f p):=by
 rw[Tri.idx,Tri.y8G _ _ _ (by rw[Tri.x4U];exact L),z4c f p L];rfl
theorem z1u f p:(bsAt f p).length<=p:=by
 have:=(Tri.y3t [] ((Tri.pcs f).take p)).2;rw[List.length_take]at this;unfold bsAt;simp only[List.length_nil]at this;omega
theorem y4M f p:(bsAt f p).Nodup:=Tri.y4L List.nodup_nil
theorem y7h{f}(h:∀c,0<=f c/\f c<=65535) p:x6e (bsAt f p):=by
 intro b Y;rcases Tri.blkA_sub Y with h1|h1
 ·cases h1
 ·have D:=List.mem_of_mem_take h1;rw[Tri.pcs,List.mem_map]at D;obtain⟨q,_,rfl⟩:=D;exact y3u h q
theorem z6P{f p}(L:p<17408)(z:Tri.blk f p∈bsAt f p):bsAt f (p+1)=bsAt f p/\(Tri.idx f).getD p 0=(bsAt f p).idxOf (Tri.blk f p)/\(bsAt f p).idxOf (Tri.blk f p)<(bsAt f p).length :=
 ⟨by rw[y0d f p L,Tri.y9M z],z3P f p L,List.idxOf_lt_length_iff.2 z⟩
theorem z3k{f p}(L:p<17408)(z:Tri.blk f p ∉ bsAt f p):bsAt f (p+1)=bsAt f p++[Tri.blk f p]/\(Tri.idx f).getD p 0=(bsAt f p).length:=by
 refine⟨by rw[y0d f p L];unfold Tri.push;rw[if_neg z],?_⟩;rw[z3P f p L];have Z:¬(bsAt f p).idxOf (Tri.blk f p)<(bsAt f p).length:=fun D=>z (List.idxOf_lt_length_iff.1 D);have D:(bsAt f p).idxOf (Tri.blk f p)<=(bsAt f p).length:=List.idxOf_le_length;omega
theorem z6b n:madeCells #[.int .u16 0] n=arrA (List.replicate n 0):=by
 apply Array.ext';rw[toList_madeCells_one];simp[arrA]
theorem z9D w d w3(h:w3=((w.alloc (.cells (madeCells #[.int .u16 0] 17408) 270)).alloc (.cells #[.slice (some ⟨w.heap.size,0,none⟩) 17408 17408,.slice none 0 0,.int .i64 d] 269)).alloc (.map #[] 0)) :
  Bw w w3/\Ix w3 w.heap.size (List.replicate 17408 0)/\Tb w3 (w.heap.size+1) w.heap.size (.slice none 0 0) d/\w3.ownsMap prog 272 (plainElem prog 270) (w.heap.size+1+1) 0 (dat []):=by
 subst h;refine⟨(((Below.refl _ w).alloc (l0r _) _).alloc M7M _).alloc P8P _,⟨List.length_replicate,?_⟩,?_,?_⟩
 ·rw[Below.heap_alloc _ _ _ P8P,Below.heap_alloc _ _ _ M7M,heap_alloc_last,z6b]
 ·unfold Tb;rw[Below.heap_alloc _ _ _ M7M];have:=heap_alloc_last (w.alloc (.cells (madeCells #[.int .u16 0] 17408) 270)) (.cells #[.slice (some ⟨w.heap.size,0,none⟩) 17408 17408,.slice none 0 0,.int .i64 d] 269);rwa [(M7M:(w.alloc (.cells (madeCells #[.int .u16 0] 17408) 270)).heap.size=w.heap.size+1)]at this
 ·have:=World.ownsMap_made (H:=Unit) ((w.alloc (.cells (madeCells #[.int .u16 0] 17408) 270)).alloc (.cells #[.slice (some ⟨w.heap.size,0,none⟩) 17408 17408,.slice none 0 0,.int .i64 d] 269)) prog 272 (plainElem prog 270);rwa [(M7M:((w.alloc (.cells (madeCells #[.int .u16 0] 17408) 270)).alloc (.cells #[.slice (some ⟨w.heap.size,0,none⟩) 17408 17408,.slice none 0 0,.int .i64 d] 269)).heap.size=w.heap.size+1+1)]at this
theorem z5m xs(l:List Nat)(h:xs.length=l.length)(J:∀j,j<l.length->xs.getD j 0=((l.getD j 0:Nat):Int)):xs=l.map fun n:Nat=>(n:Int):=by
 apply List.ext_getElem (by rw[h,List.length_map]);intro j a b;have:=J j T5W;rw[List.getElem_map];simp only[List.getD,List.getElem?_eq_getElem a,Option.getD_some]at this;rw[this,List.getElem?_eq_getElem T5W];rfl
theorem z5B(l:List Nat)(h:∀j,j<l.length->l.getD j 0<=65535):Fit .u16 (l.map fun n:Nat=>(n:Int)):=by
 intro z o;obtain⟨n,E,rfl⟩:=List.mem_map.1 o;obtain⟨j,K,rfl⟩:=List.getElem_of_mem E;have F:=h j K;simp only[List.getD,List.getElem?_eq_getElem K,Option.getD_some]at F;simp[IntKind.min,IntKind.max,IntKind.signed,IntKind.bits];omega
theorem ix_ok n(E:n<=100000){wr B gI} zs(l:B<=gI)(S:zs.length=n)(X:Fit .u16 zs)(a:wr.heap[gI]?=some (.cells (arrA zs) 270 (0,0))):Ok .u16 270 wr B (.slice (some ⟨gI,0,none⟩) n n) zs:=by
 refine⟨X,by rw[List.length_map];exact f6J,?_⟩;rw[List.length_map,S];refine⟨by rw[List.length_map,Nat.mul_one,S],.inr ⟨gI,n,arrA zs,rfl,l,a,l0r _,T7W,by rw[x1T,Nat.mul_one,S],?_⟩⟩;rw[Nat.mul_one,List.take_of_length_le (by rw[Array.length_toList,x1T,S];exact f6J)];simp[arrA]
theorem Ob.lower{e w B B' v}{bs}(h:Ob e w B v bs)(Y:B'<=B):Ob e w B' v bs:=by
 refine⟨h.1,h.2.1,?_⟩;rcases h.2.2 with h|⟨g,M,T,N,C,r⟩
 ·exact .inl h
 ·exact .inr ⟨g,M,T,N,f6J,r⟩
theorem y8H f j(K:j<(Tri.idx f).length):(Tri.idx f).getD j 0<=65535:=by
 have Z:=Tri.idx_len f;have D:=Tri.y7g f;have R:=(Tri.y7f f j f6J).2;omega
theorem fin4{w wr}{rs:List Tri.Rg}{d gI gT gM bv xs}(I:Tri.Val 0 rs)(hd:0<=d/\d<=65535)(Z:w.heap.size<=gI)(D:w.heap.size<=gT)(R:w.heap.size<=gM)
  (T:Ix wr gI xs) (J:∀j,j<17408->xs.getD j 0=(((Tri.idx (Tri.get d rs)).getD j 0:Nat):Int)) (p:Tb wr gT gI bv d) (A:Ob 272 wr (gM+1) bv (bsAt (Tri.get d rs) 17408)) (Y:Bw w wr) :
  x5O w rs d (.returned (.pointer (some ⟨gT,0,none⟩))) wr:=by
 have s:=Tri.idx_len (Tri.get d rs);have n:=z5m xs (Tri.idx (Tri.get d rs)) (T.1.trans s.symm) (fun j K=>J j (by rw[s]at K;exact K));have l:=z5B (Tri.idx (Tri.get d rs)) (y8H (Tri.get d rs));have X:=ix_ok 17408 f6J xs Z T.1 (by rw[n];exact l) T.2;rw[n]at X;rw[z1t]at A;exact⟨_,rfl,⟨I,hd,gT,_,bv,rfl,D,p,X,A.lower f6J⟩,Y⟩
theorem y7y v(rs:List Tri.Rg) d w(hv:Sr w v rs)(aB:Tri.Val 0 rs)(hd:0<=d/\d<=65535) :
  Calls prog 239 #[v,.int .i64 d] w (x5O w rs d):=by
 have HV:=O aB;have cI:=O hv;have S:Hid (∀c,0<=Tri.get d rs c/\Tri.get d rs c<=65535):=fun c=>Tri.y0A hd aB;have ce:Hid (∀wr a D gM bv L,w.heap.size<=a->w.heap.size<=D->w.heap.size<=gM->Ix wr a L->(∀j,j<17408->L.getD j 0=(((Tri.idx (Tri.get d rs)).getD j 0:Nat):Int))->Tb wr D a bv d->Ob 272 wr (gM+1) bv (bsAt (Tri.get d rs) 17408)->Bw w wr->x5O w rs d (.returned (.pointer (some ⟨D,0,none⟩))) wr):=fun wr a D gM bv L a1 a2 a3 a4 a5 a6 a7 a8=>fin4 aB hd a1 a2 a3 a4 a5 a6 a7 a8
 have cd:Hid (∀(k p:Nat),(∀j,j<k->Tri.hi (rs.getD j (0,0,0))<64*(p:Int))->Tri.blk (Tri.get d (rs.drop k)) p=Tri.blk (Tri.get d rs) p):=by
  intro k p h;unfold Tri.blk;refine List.map_congr_left fun i _=>?_;exact Tri.z2a k fun j hj _=>by have:=h j hj;exact f6J
 have bE:Hid (∀(u:Value) (k p:Nat) (w':World),Sr w' u (rs.drop k)->p<17408->Calls prog 280 #[u,.int .i64 ((p:Int)*64),.int .i64 d] w' (y6J w' (Tri.blk (Tri.get d (rs.drop k)) p))):=fun u k p w' h1 h2=>z6X u _ d p w' h1 (Tri.z3r aB k) hd h2;obtain⟨d1,d2⟩:=hd;have dw:=@run_makeMap prog;have dv:∀w,(Instr.makeSlice 266 (.int .i64 17408) (.int .i64 17408)).run prog w=.ok (.slice (some ⟨w.heap.size,0,none⟩) 17408 17408) (w.alloc (.cells (madeCells #[.int .u16 0] 17408) 270)):=run_make_row' (P:=prog) 266 270 (.int .u16 0) 2 underlying266 Tryz.info270 rfl .i64 .i64 17408 f6J f6J;have cP:=O (z9D w d);generalize Tri.get d rs=f at *;go_enter func239,ntmps239;go_wp2;have cJ:=V cP _ rfl;generalize((w.alloc (.cells (madeCells #[.int .u16 0] 17408) 270)).alloc (.cells #[.slice (some ⟨w.heap.size,0,none⟩) 17408 17408,.slice none 0 0,.int .i64 d] 269)).alloc (.map #[] 0)=wz at *;obtain⟨a,bj⟩:∃g,g=w.heap.size:=⟨_,rfl⟩;obtain⟨D,bL⟩:∃g,g=w.heap.size+1:=⟨_,rfl⟩;obtain⟨gM,bK⟩:∃g,g=w.heap.size+1+1:=⟨_,rfl⟩;obtain⟨cF,bG,bI,bH⟩:=cJ;rw[<- bK]at bH;rw[<- bL,<- bj]at bI;rw[<- bj]at bG;have di:a<D:=f6J;have dl:D<gM:=f6J;have aU:w.heap.size<=a:=f6J;rw[<- bK,<- bL,<- bj];clear bj bL bK;go_loopw[0,17] (fun l i wr=>∃(p k:Nat) (bv:Value) (L:List Int),i=.int .i64 p/\p<=17408/\Sr w l (rs.drop k)/\k<=rs.length/\(∀j,j<k->Tri.hi (rs.getD j (0,0,0))<64*(p:Int))/\Ix wr a L/\(∀j,j<p->L.getD j 0=(((Tri.idx f).getD j 0:Nat):Int))/\Tb wr D a bv d/\Ob 272 wr (gM+1) bv (bsAt f p)/\wr.ownsMap prog 272 (plainElem prog 270) gM p (dat (bsAt f p))/\Bw w wr) (fun _ i _=>17408-(intOf i).toNat)
 case atStart=>exact⟨0,0,_,_,rfl,f6J,by simpa using V cI,f6J,fun j hj=>f6J,bG,fun j hj=>f6J,bI,⟨fun b hb=>(by cases hb),World.ownsRow_nil _ _ _ _⟩,bH,cF⟩
 case round =>
  clear cF bG bI bH cI;obtain⟨p,k,bv,L,rfl,hp,hs,hk,bN,hI,bn,hT,hB,hM,A⟩:=hrel;by_cases aI:p<17408
  ·have cB:Fi ((p:Int)*64):=(by constructor<;>omega);have dp:(0:Int)<=(p:Int):=f6J;have dq:(p:Int)<17408:=f6J;have cj:=O (y9V _ (rs.drop k) ((p:Int)*64) w wr hs A cB);have cR:=O bn;have HI:=O hI;have HT:=O hT;have HB:=O hB;have HM:=O hM;have cg:=O bN;clear cB hs bn hI hT hB hM bN;go_wp2_with fail;refine(V cj).mono ?_;rintro e w1 ⟨rfl,v1,k1,rfl,T,aH,cH⟩;clear cj;have T:Sr w v1 (rs.drop (k+k1)):=(by rw[<- List.drop_drop];exact T);have aH:k+k1<=rs.length:=by rw[List.length_drop]at aH;omega
   have bM:∀j,j<k+k1->Tri.hi (rs.getD j (0,0,0))<64*(p:Int):=by
    intro j hj;by_cases cV:j<k
    ·exact V cg j cV
    ·have:=cH (j-k) f6J;rw[show(rs.drop k).getD (j-k) (0,0,0)=rs.getD j (0,0,0)by simp[List.getD,List.getElem?_drop,(f6J:k+(j-k)=j)]]at this;omega
   have aN:=V bE v1 (k+k1) p w1 (T.below A) aI;rw[V cd _ _ bM]at aN;have aN:=O aN;have cf:=O bM;clear cg cH bM;generalize k+k1=kk at *;go_wp2_with fail;refine c0m aN fun w2 aG=>?_;clear aN;have ag:Good (Tri.blk f p):=y3u (V S) p;have bJ:=y7h (V S) p;have aw:=O (z7X (bsAt f p) bJ (y4M f p) (Tri.blk f p) ag);have cU:=z1u f p;have bw:=O (fun hm=>z6P (f:=f) aI hm);have aL:=O (fun hm=>z3k (f:=f) aI hm);have H:=y3V ag;have U:=ag.1;have dr:=A.size;have cG:Bw w (w2.alloc (.cells (arrA (Tri.blk f p)) 272)):=(A.trans (aG.mono A.size)).alloc (Nat.le_trans A.size aG.size) _;have K3:Keeps w1 (w2.alloc (.cells (arrA (Tri.blk f p)) 272)) none:=Keeps.of_below (aG.alloc aG.size _) none;have af:=O ((V HI).keep K3 (by simp));have am:=O ((V HT).keep K3 (by simp));have ai:=O ((V HB).keep K3 (fun k h=>by cases h));have az:=x2F (V HM) K3 (by simp);have aQ:Bk (w2.alloc (.cells (arrA (Tri.blk f p)) 272)) w2.heap.size (Tri.blk f p):=Bk.new w2 _ _ rfl;have E:=aQ.box;have cZ:=fun w=>y6v w (Tri.blk f p) U;have dk:gM<w1.heap.size:=(V HM).lt;have da:=aG.size;clear HI HT HB HM K3 aG A;generalize Tri.blk f p=zs,bsAt f p=bs at *;have cS:((arrA zs).toList:List Value)=zs.map (Value.int .u16):=(by simp[arrA]);have bT:(arrA zs).size=64:=(by rw[x1T,U]);have aJ:=O E;have aK:=O H;have bD:=O az;have aY:=O cG;have bt:=O aQ;clear E H az cG aQ
   set_option maxRecDepth 100000 in
   go_upto_region 9 with fail;clear cZ cS bT;have az:=V bD;have H:=V aK;have E:=V aJ;generalize w2.alloc (.cells (arrA zs) 272)=w3 at *;go_wp2_with(first| refine wpList_load_mid rfl 272 (.tmp 9) rfl w2.heap.size 0 rfl (zs.map (Value.int .u16)) _ E underlying272 rfl (x6D U) ?_|(at_lookup;refine wpList_lookup_own_ok_int _ rfl _ _ 357 rfl 272 270 .u16 y3q underlying357 underlying270 (z7f _) gM p (dat bs) rfl az _ (keyL zs) rfl H ?_));intro c N cK;have af:=V af;have am:=V am;have bp:=ai;have be:=af.cell (i:=p) aI;have bh:=af.frozen p;have bu:∀j,j<kk->Tri.hi (rs.getD j (0,0,0))<64*((p+1:Nat):Int):=fun j hj=>(by have:=V cf j hj;exact f6J);have aZ:=O bu
   have ba:Hid (∀n:Int,n=(((Tri.idx f).getD p 0:Nat):Int)->∀j,j<p+1->(L.set p n).getD j 0=(((Tri.idx f).getD j 0:Nat):Int)):=by
    intro n hn j hj;rw[x7d L p j n (by rw[af.1];exact aI)];by_cases bP:j=p
    ·rw[if_pos bP,hn,bP]
    ·rw[if_neg bP];exact V cR j f6J
   clear bu cf;by_cases hm:zs∈bs
   ·obtain⟨e1,e2,e3⟩:=V bw hm;have R:Maps.has (dat bs) (keyL zs)=true:=by rw[(V aw).1,d0t hm]
    have hc:c=(bs.idxOf zs:Int):=by
     rw[(V aw).2 hm]at N;simpa using N.symm
    subst hc;rw[R];have aO:=O (V ba (bs.idxOf zs:Int) (by rw[e2]));have cC:=af.set p (bs.idxOf zs:Int);have K5:=Keeps.of_set w3 ⟨a,p,none⟩ (.int .u16 (bs.idxOf zs:Int));have cE:=am.keep K5 P8R;have cz:=(V ai).keep K5 (fun k h=>g4F);have cD:=(x2F az K5 P8R).mono (Nat.le_succ p);have cT:=(V aY).setCell (p:=⟨a,p,none⟩) aU (.int .u16 (bs.idxOf zs:Int));obtain⟨y0,y1,y2⟩:=am.cells;have cN:=O cC;have cQ:=O cE;have cM:=O cz;have cO:=O cD;have E1:=O e1;have dt:=O af;clear N cK R aw bw aL ba cC K5 cE cz cD e1 e2 bD az am af E aJ aY ai bp bt H aK hm cU bJ;generalize(bs.idxOf zs:Int)=n at *;go_wp2
    go_roundw
    case rel=>exact⟨p+1,kk,bv,L.set p n,by go_num,f6J,T,aH,V aZ,V cN,V aO,V cQ,by rw[V E1];exact V cM,by rw[V E1];exact V cO,cT⟩
    case measure=>exact g7W
   ·obtain⟨e1,e2⟩:=V aL hm;have R:Maps.has (dat bs) (keyL zs)=false:=(by rw[(V aw).1,d0f hm]);rw[R];have aO:=O (V ba (bs.length:Int) (by rw[e2]));have E1:=O e1;have ai:=V ai;obtain⟨ao,J,rfl,de,dh⟩:=ai.sb.shape;obtain⟨y0,y1,y2⟩:=am.cells;have cW:(0:Int)<=(bs.length:Int):=f6J;have cX:(bs.length:Int)<=65535:=f6J;have db:(Lit.int .u16 (bs.length:Int)).wf=true:=z4s ⟨cW,cX⟩;have bZ:=O ai;have cw:=O am;have ci:=O af;clear N cK R aw bw aL ba e1 e2 bD am af aJ ai bp aK bJ be bh;go_wp2_with(first| refine wpList_load_mid rfl 272 (.tmp 9) rfl w2.heap.size 0 rfl (zs.map (Value.int .u16)) _ E underlying272 rfl (x6D U) ?_|(at_mapUpdate;refine wpList_mapUpdate_own _ rfl _ _ _ 357 rfl 272 270 y3q underlying357 (plainElem prog 270) gM p (dat bs) rfl az T7X _ _ (keyL zs) rfl rfl H (.lit (.int .u16 (bs.length:Int))) [] (plainElem_int underlying270 db) ?_));intro G s aT;have K4:=Keeps.of_grown aT;have aq:=(V cw).keep K4 P8R;have aF:=(V ci).keep K4 P8R;have aP:=(V bZ).keep K4 (fun k h=>by cases h;exact f6J);have bm:=(V bt).keep K4 P8R;have ar:=below_grown (V aY) aT (V aY).size (fun k h=>by cases h;exact f6J);rw[<- y3B]at s;have ay:=aP.2;have X:=ay.lt;obtain⟨i0,z0,bO,bU,bV,bX,bY⟩:=z8u;obtain⟨x0,x1,x2⟩:=aq.cells;have du:=aq.frozen 1;have F:=y5q #[.int .u16 0,.int .u16 0,.int .u16 0,.int .u16 0,.int .u16 0,.int .u16 0,.int .u16 0,.int .u16 0,.int .u16 0,.int .u16 0,.int .u16 0,.int .u16 0,.int .u16 0,.int .u16 0,.int .u16 0,.int .u16 0,.int .u16 0,.int .u16 0,.int .u16 0,.int .u16 0,.int .u16 0,.int .u16 0,.int .u16 0,.int .u16 0,.int .u16 0,.int .u16 0,.int .u16 0,.int .u16 0,.int .u16 0,.int .u16 0,.int .u16 0,.int .u16 0,.int .u16 0,.int .u16 0,.int .u16 0,.int .u16 0,.int .u16 0,.int .u16 0,.int .u16 0,.int .u16 0,.int .u16 0,.int .u16 0,.int .u16 0,.int .u16 0,.int .u16 0,.int .u16 0,.int .u16 0,.int .u16 0,.int .u16 0,.int .u16 0,.int .u16 0,.int .u16 0,.int .u16 0,.int .u16 0,.int .u16 0,.int .u16 0,.int .u16 0,.int .u16 0,.int .u16 0,.int .u16 0,.int .u16 0,.int .u16 0,.int .u16 0,.int .u16 0] rfl zs U;have dj:=s.lt;have bS:∀v∈zs.map (Value.int .u16),v.oneCell'=true:=x0S .u16 zs;have bQ:some D≠(Value.slice ao bs.length J).ownBlock:=fun e=>s7M;have bQ:some D≠(Value.slice ao bs.length J).ownBlock:=fun e=>by have:=(X _ e.symm).1;omega
    have cx:∀(W y:World) (o:Obj),W.heap=(G.alloc o).heap->W.grownBy y (Value.slice ao bs.length J).ownBlock->Keeps G y (Value.slice ao bs.length J).ownBlock:=by
     intro W y o hW hg
     exact⟨fun k hk cY=>by
      rw[hg.block k (by rw[hW];exact P8R) cY,hW]
      exact Below.heap_alloc G o k hk⟩
    have aD:=O cx;have bC:=O bQ
    have aM:Hid (∀(y:World) (x:Value),Tb y D a (.slice ao bs.length J) d->∀r M,x=.slice (some ⟨r,0,none⟩) (bs.length+1) M->(Instr.storeAt 267 (.pointer (some ⟨D,1,none⟩)) x).run prog y=.ok () (y.setCell ⟨D,1,none⟩ x)):=by
     intro y x Y r M hx;subst hx;obtain⟨_,q1,_⟩:=Y.cells;have q2:=Y.frozen 1;go_simp
    have aW:(Instr.loadAt 267 (.pointer (some ⟨D,1,none⟩))).run prog G.drew=.ok (.slice ao bs.length J) G.drew:=by
     have q1:G.drew.cell? ⟨D,1,none⟩=some (.slice ao bs.length J):=x1;go_simp
    have aA:(Instr.loadAt 267 (.pointer (some ⟨D,1,none⟩))).run prog (G.drew.alloc (.cells (zs.map (Value.int .u16)).toArray 272))=.ok (.slice ao bs.length J) (G.drew.alloc (.cells (zs.map (Value.int .u16)).toArray 272)):=by
     have q1:(G.drew.alloc (.cells (zs.map (Value.int .u16)).toArray 272)).cell? ⟨D,1,none⟩=some (.slice ao bs.length J):=by
      rw[((Below.refl _ G.drew).alloc (l0r _) _).cell (x0a (w:=G) x1)];exact x1
     generalize G.drew.alloc (.cells (zs.map (Value.int .u16)).toArray 272)=wq at *;go_simp
    have aX:=run_loadAt_mid (P:=prog) G.drew w2.heap.size 0 272 (zs.map (Value.int .u16)) _ bm.box underlying272 rfl (x6D U);have F:=y6k 267 272 underlying267 z8t G.drew zs U;have ab:(G.drew.alloc (.cells (zs.map (Value.int .u16)).toArray 272)).ownsRow (gM+1) 272 64 (.slice ao bs.length J) bs.length (x2j bs):=World.ownsRow.alloc (w:=G.drew) ay _
    have z:∀j u,(zs.map (Value.int .u16))[j]?=some u->(G.drew.alloc (.cells (zs.map (Value.int .u16)).toArray 272)).cell? ((⟨G.heap.size,0,none⟩:Addr).add j)=some u:=by
     intro j u hj;have h9:=heap_alloc_last G.drew (.cells (zs.map (Value.int .u16)).toArray 272);rw[addr_add,Nat.zero_add,cell_of_row _ G.heap.size j _ _ _ h9];simpa using hj
    have bR:(zs.map (Value.int .u16)).length=1*64:=P8R;have I:gM+1<=(G.drew.alloc (.cells (zs.map (Value.int .u16)).toArray 272)).heap.size:=(by have h9:G.drew.heap.size=G.heap.size:=rfl;exact P8R);have bF:(G.drew.alloc (.cells (zs.map (Value.int .u16)).toArray 272)).heap.size=G.heap.size+1:=(by have h9:G.drew.heap.size=G.heap.size:=rfl;simp);have bA:Hid (some a≠(Value.slice ao bs.length J).ownBlock):=fun e=>s7M;have bB:Hid (some gM≠(Value.slice ao bs.length J).ownBlock):=fun e=>s7M
    have aC:Hid (∀(y:World) (x:Value),y.ownsRow (gM+1) 272 64 x (bs.length+1) (x2j bs++zs.map (Value.int .u16))->Ob 272 y (gM+1) x (bs++[zs])):=by
     intro y x h;refine⟨fun b hb=>?_,?_⟩
     ·rcases List.mem_append.1 hb with h1|h1
      ·exact aP.1 b h1
      ·simp at h1;subst h1;exact ag
     ·rw[y4I,x8I,List.length_append];exact h
    have m:Hid (∀(y:World) (x:Value),Tb y D a (.slice ao bs.length J) d->Ix y a L->y.ownsMap prog 272 (plainElem prog 270) gM (p+1) (dat (bs++[zs]))->Ob 272 y (gM+1) x (bs++[zs])->Bw w y ->
      ((y.setCell ⟨D,1,none⟩ x).cell? ⟨D,0,none⟩=some (.slice (some ⟨a,0,none⟩) 17408 17408)/\(y.setCell ⟨D,1,none⟩ x).cell? ⟨D,1,none⟩=some x/\(y.setCell ⟨D,1,none⟩ x).cell? ⟨D,2,none⟩=some (.int .i64 d))/\(y.setCell ⟨D,1,none⟩ x).cell? ⟨a,p,none⟩=some (.int .u16 (L.getD p 0))/\(y.setCell ⟨D,1,none⟩ x).frozen? ⟨a,p,none⟩=false /\
      (Ix ((y.setCell ⟨D,1,none⟩ x).setCell ⟨a,p,none⟩ (.int .u16 (bs.length:Int))) a (L.set p (bs.length:Int))/\Tb ((y.setCell ⟨D,1,none⟩ x).setCell ⟨a,p,none⟩ (.int .u16 (bs.length:Int))) D a x d/\Ob 272 ((y.setCell ⟨D,1,none⟩ x).setCell ⟨a,p,none⟩ (.int .u16 (bs.length:Int))) (gM+1) x (bs++[zs]) /\
       ((y.setCell ⟨D,1,none⟩ x).setCell ⟨a,p,none⟩ (.int .u16 (bs.length:Int))).ownsMap prog 272 (plainElem prog 270) gM (p+1) (dat (bs++[zs]))/\Bw w ((y.setCell ⟨D,1,none⟩ x).setCell ⟨a,p,none⟩ (.int .u16 (bs.length:Int))))):=by
     intro y x a1 a2 a3 a4 a5;have b1:=a1.set x;have k1:=Keeps.of_set y ⟨D,1,none⟩ x;have b2:=a2.keep k1 P8R;have b3:=x2F a3 k1 P8R;have b4:=a4.keep k1 (fun k h=>g4F);have b5:=a5.setCell (p:=⟨D,1,none⟩) (f6J:w.heap.size<=D) x;have k2:=Keeps.of_set (y.setCell ⟨D,1,none⟩ x) ⟨a,p,none⟩ (.int .u16 (bs.length:Int));exact⟨b1.cells,b2.cell aI,b2.frozen p,b2.set p _,b1.keep k2 P8R,b4.keep k2 (fun k h=>g4F),x2F b3 k2 P8R,b5.setCell (p:=⟨a,p,none⟩) aU _⟩
    have aR:w.heap.size<=G.drew.heap.size:=ar.size;have aV:w.heap.size<=gM+1:=f6J;have aS:w.heap.size<=(G.drew.alloc (.cells (zs.map (Value.int .u16)).toArray 272)).heap.size:=(by have h9:G.drew.heap.size=G.heap.size:=rfl;have:=ar.size;exact P8R);clear E cx bQ;go_wp2;refine wp_region_any f4A ?_;change wpAny _ _ _ _ _ _ _ (World.drew _);refine wpAny_take (i:=0) (oi:=⟨some 46,_,_,_,_,_⟩) (v:=.pointer (some ⟨D,0,none⟩)) rfl f4A f4A f4A (fun _ _ _ h=>h) (Or.inl ⟨by rfl,?_⟩) ?_
    ·exact M9i
    simp only[Act.put,sa9,sb9,sc9];refine wpAny_take (i:=1) (oi:=⟨some 47,_,_,_,_,_⟩) (v:=.pointer (some ⟨D,0,none⟩)) rfl f4A f4A f4A (fun _ _ _ h=>h) (Or.inl ⟨by rfl,?_⟩) ?_
    ·exact M9i
    simp only[Act.put,sa9,sb9,sc9];refine wpAny_take (i:=2) (oi:=⟨some 48,_,_,_,_,_⟩) (v:=.pointer (some ⟨D,0,none⟩)) rfl f4A f4A f4A (fun _ _ _ h=>h) (Or.inl ⟨by rfl,?_⟩) ?_
    ·exact M9i
    simp only[Act.put,sa9,sb9,sc9];refine wpAny_take (i:=3) (oi:=⟨some 49,_,_,_,_,_⟩) (v:=.pointer (some ⟨D,1,none⟩)) rfl f4A f4A f4A (fun _ _ _ h=>h) (Or.inl ⟨by rfl,?_⟩) ?_
    ·exact M9i
    simp only[Act.put,sa9,sb9,sc9];refine wpAny_ready (rs:=[4,5]) f4A (by simp) ?_;refine AllReady.cons (o:=⟨some 50,_,_,_,_,_⟩) rfl (fun K hK=>?_) (AllReady.cons (o:=⟨some 51,_,_,_,_,_⟩) rfl (fun K hK=>?_) AllReady.nil)
    ·refine x1Z (by rfl) 267 (.tmp 49) (by rfl) _ _ (by rfl) aW ?_;refine hK _ _ ?_;clear hK K;simp only[Act.put,sa9,sb9,sc9];refine wpAny_ready (rs:=[5]) f4A (by simp) ?_;refine AllReady.cons (o:=⟨some 51,_,_,_,_,_⟩) rfl (fun K hK=>?_) AllReady.nil;refine x1Z (by rfl) 272 (.tmp 9) (by rfl) _ _ (by rfl) aX ?_;exact i0Q
    ·refine x1Z (by rfl) 272 (.tmp 9) (by rfl) _ _ (by rfl) aX ?_;refine hK _ _ ?_;clear hK K;simp only[Act.put,sa9,sb9,sc9];refine wpAny_ready (rs:=[4,6]) f4A (by simp) ?_;refine AllReady.cons (o:=⟨some 50,_,_,_,_,_⟩) rfl (fun K hK=>?_) (AllReady.cons (o:=⟨some 52,_,_,_,_,_⟩) rfl (fun K hK=>?_) AllReady.nil)
     ·refine x1Z (by rfl) 267 (.tmp 49) (by rfl) _ _ (by rfl) aW ?_;exact i0Q
     ·refine x2u (by rfl) 267 (.tmp 51) (by rfl) _ _ (by rfl) F ?_;refine hK _ _ ?_;clear hK K;simp only[Act.put,sa9,sb9,sc9];refine wpAny_ready (rs:=[4]) f4A (by simp) ?_;refine AllReady.cons (o:=⟨some 50,_,_,_,_,_⟩) rfl (fun K hK=>?_) AllReady.nil;refine x1Z (by rfl) 267 (.tmp 49) (by rfl) _ _ (by rfl) aA ?_;exact I8p
  ·obtain rfl:p=17408:=f6J;have HR:=V ce wr a D gM bv L aU f6J f6J hI bn hT hB A;clear hI bn hT hB hM A hs bN;go_wp2;go_ret;exact HR
end Go.Proofs.YtbmckadcjdedcaaGreatDoor.Ti
namespace Go.Proofs.YtbmckadcjdedcaaGreatDoor.Ti
open Go.Proofs.Tryz
open Go.RowKit
theorem T4.lower{w B B' t}{rs:List Tri.Rg}{d}(h:T4 w B t rs d)(Y:B'<=B):T4 w B' t rs d:=by
 obtain⟨Z,D,g,A,P,R,H,p,F,o⟩:=h;exact⟨Z,D,g,A,P,R,f6J,p,F.lower Y,o.lower Y⟩
theorem z3H v(rs:List Tri.Rg) d w(N:Sr w v rs)(hd:Fi d):Calls prog 187 #[v,.int .i64 d] w (x6f (fun w' t rs d=>T4 w' w.heap.size t rs d) w rs d):=by
 have J:=O (y2j v rs d w N hd)
 have R:Hid (∀Q,Bw w Q->(Tri.check d rs).2=0->Calls prog 239 #[v,.int .i64 d] Q (x5O Q rs d)):=by
  intro Q Y A;obtain⟨Z,D⟩:=Tri.x4d.1 A;exact y7y v rs d Q (N.below Y) Z D
 have o:Hid ((Tri.check d rs).2=0->(Tri.check d rs).1=0):=Tri.x4K 0 none rs;have G:Hid (∀w',Bw w w'->(Tri.check d rs).2≠0->x6f (fun w' t rs d=>T4 w' w.heap.size t rs d) w rs d (.returned (.tuple #[.pointer none,.int .i64 (Tri.check d rs).1,.int .i64 (Tri.check d rs).2])) w'):=fun w' Y I=>⟨Y,.inr ⟨I,rfl⟩⟩;have l:Hid (∀w' a,Bw w w'->(Tri.check d rs).2=0->T4 w' w.heap.size (.pointer (some a)) rs d->x6f (fun w' t rs d=>T4 w' w.heap.size t rs d) w rs d (.returned (.tuple #[.pointer (some a),.int .i64 0,.int .i64 0])) w'):=fun w' a Y I p=>⟨Y,.inl ⟨I,a,rfl,p⟩⟩;generalize Tri.check d rs=q at *;obtain⟨K,x⟩:=q;go_enter func187,ntmps187;go_wp2_with fail;refine c0m J fun Q E=>?_;by_cases A:x=0
 ·subst A;have C:=O (V R Q E rfl);go_wp2_with fail;refine(V C).mono ?_;rintro e L ⟨a,rfl,p,F⟩;go_wp2;go_ret3;exact V l _ a (E.trans (F.mono E.size)) f5W (p.lower E.size)
 ·have B:(x != 0)=true:=(by simp[A]);go_wp2;go_ret3;exact V G _ E A
end Go.Proofs.YtbmckadcjdedcaaGreatDoor.Ti
