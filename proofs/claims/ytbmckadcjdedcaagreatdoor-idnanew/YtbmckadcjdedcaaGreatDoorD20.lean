/- TiTrE4 TiTrH4 -/
import Derived.Test.YtbmckadcjdedcaaGreatDoorD19
import Derived.Deep.AppendLies
import Derived.Deep.DrawnRows
import Derived.Deep.OwnRows
import Derived.Deep.RegionHeld3
import Derived.Deep.RegionLaw
import Derived.Great.BuildSlice
set_option maxHeartbeats 2000000
set_option maxRecDepth 2000
namespace Go.Proofs.YtbmckadcjdedcaaGreatDoor
section
variable{p:Prop}
theorem S9z(h:p:=by rw[cell_of_row _ _ _ _ _ _ h];rfl):p:=h
theorem T5W(h:p:=by rw[List.length_map]at b;exact b):p:=h
theorem s4U(h:p:=by
 refine hK _ _ ?_;clear hK K;simp only[Act.put,sa9,sb9,sc9];refine wpAny_ready (rs:=[7]) f4A M7P ?_;refine AllReady.cons (o:=⟨some 53,_,_,_,_,_⟩) rfl (fun K hK=>?_) AllReady.nil;refine step_append_lies _ (by rfl) _ _ _ (by rfl) (E+1) 272 i0 z0 64 128 underlying267 bQ bX bY bZ cd f6J (.slice s bs.length J) bs.length (x2e bs) (by rfl) G ⟨X.heap.size,0,none⟩ 1 1 (zs.map (Value.int .u16)) (by rfl) bT ae bU f6J T7X f6J N (X.heap.size+1) bH ?_;intro gg M y Q D q aB;refine hK _ _ ?_;clear hK K;simp only[Act.put,sa9,sb9,sc9];refine wpAny_take (i:=8) (oi:=⟨some 54,_,_,_,_,_⟩) (v:=.pointer (some ⟨I,0,none⟩)) rfl f4A f4A f4A (fun _ _ _ h=>h) (Or.inl ⟨by rfl,?_⟩) ?_
 ·exact M9h
 simp only[Act.put,sa9,sb9,sc9];refine wpAny_take (i:=9) (oi:=⟨some 55,_,_,_,_,_⟩) (v:=.pointer (some ⟨I,1,none⟩)) rfl f4A f4A f4A (fun _ _ _ h=>h) (Or.inl ⟨by rfl,?_⟩) ?_
 ·exact M9h
 simp only[Act.put,sa9,sb9,sc9];refine wpAny_ready (rs:=[10]) f4A M7P ?_;refine AllReady.cons (o:=⟨none,_,_,_,_,_⟩) rfl (fun K hK=>?_) AllReady.nil;have B:=ar.keep (V Z _ _ (.cells (zs.map (Value.int .u16)).toArray 272) (by rfl) D) (V bE);refine x5c (by rfl) 267 (.tmp 55) (.tmp 53) (by rfl) (.pointer (some ⟨I,1,none⟩)) (.slice (some ⟨gg,0,none⟩) (bs.length+1) M) (by rfl) (by rfl) (V aO y _ B gg M rfl) ?_;refine hK _ _ ?_;clear hK K;simp only[Act.put];refine wpAny_done f4A ?_ _;have H:=V Z _ _ (.cells (zs.map (Value.int .u16)).toArray 272) (by rfl) D;have aq:=V Y y _ Q;have ay:Bw w y:=(aw.drew.alloc aT _).grown D aU (fun k hk=>Nat.le_trans aX (A k hk).1);have aA:=V C y _ B (aH.keep H (V bC)) (x2y S H (V bD)) aq ay;generalize y.setCell ⟨I,1,none⟩ (.slice (some ⟨gg,0,none⟩) (bs.length+1) M)=w9 at *;obtain⟨⟨y0,y1,y2⟩,bj,bm,R⟩:=aA;have F:=O R;clear R Q D q aB B H aq ay aw aH ar aR S a A bp aY aG aZ af G ae Y C x0 x1 x2 aV K4;generalize m.getD p 0=cN at *;go_wp2
 go_roundw
 case rel=>exact⟨p+1,kk,_,m.set p (bs.length:Int),by go_num,f6J,aD,aJ,V be,(V F).1,V aQ,(V F).2.1,by rw[V E1];exact(V F).2.2.1,by rw[V E1];exact(V F).2.2.2.1,(V F).2.2.2.2⟩
 case measure=>exact g8a):p:=h
theorem p0y(h:p:=by refine hK _ _ ?_;clear hK K;simp only[Act.put,sa9,sb9,sc9];refine wpAny_ready (rs:=[6]) f4A (by simp) ?_;refine AllReady.cons (o:=⟨some 52,_,_,_,_,_⟩) rfl (fun K hK=>?_) AllReady.nil;refine x2n (by rfl) 267 (.tmp 51) (by rfl) _ _ (by rfl) af ?_;exact s4U):p:=h
theorem s8W(h:p:=by have:=(A _ e.symm).1;exact f6J):p:=h
theorem G5m(h:p:=by cases h;exact P8Q):p:=h
end
end Go.Proofs.YtbmckadcjdedcaaGreatDoor
namespace Go.Proofs.YtbmckadcjdedcaaGreatDoor.Ti
open Go.Proofs.Tryz
open Go.RowKit Go.Maps
set_option linter.unusedSimpArgs false
theorem z6w(w:World):(zeroValue 270).run prog w=.ok (.int .u16 0) w:=(zero_of_info (n:=1) f4x).1 w
theorem y5T(w:World)(zs:List Int)(h:zs.length=64):(storeCells ⟨w.heap.size,0,none⟩ (zs.map (Value.int .u16)) 0).run prog (w.alloc (.cells #[.int .u16 0,.int .u16 0,.int .u16 0,.int .u16 0,.int .u16 0,.int .u16 0,.int .u16 0,.int .u16 0,.int .u16 0,.int .u16 0,.int .u16 0,.int .u16 0,.int .u16 0,.int .u16 0,.int .u16 0,.int .u16 0,.int .u16 0,.int .u16 0,.int .u16 0,.int .u16 0,.int .u16 0,.int .u16 0,.int .u16 0,.int .u16 0,.int .u16 0,.int .u16 0,.int .u16 0,.int .u16 0,.int .u16 0,.int .u16 0,.int .u16 0,.int .u16 0,.int .u16 0,.int .u16 0,.int .u16 0,.int .u16 0,.int .u16 0,.int .u16 0,.int .u16 0,.int .u16 0,.int .u16 0,.int .u16 0,.int .u16 0,.int .u16 0,.int .u16 0,.int .u16 0,.int .u16 0,.int .u16 0,.int .u16 0,.int .u16 0,.int .u16 0,.int .u16 0,.int .u16 0,.int .u16 0,.int .u16 0,.int .u16 0,.int .u16 0,.int .u16 0,.int .u16 0,.int .u16 0,.int .u16 0,.int .u16 0,.int .u16 0,.int .u16 0] 272))=.ok () (w.alloc (.cells (arrA zs) 272)):=by
 have D:=run_storeCells_new (P:=prog) w 272 #[.int .u16 0,.int .u16 0,.int .u16 0,.int .u16 0,.int .u16 0,.int .u16 0,.int .u16 0,.int .u16 0,.int .u16 0,.int .u16 0,.int .u16 0,.int .u16 0,.int .u16 0,.int .u16 0,.int .u16 0,.int .u16 0,.int .u16 0,.int .u16 0,.int .u16 0,.int .u16 0,.int .u16 0,.int .u16 0,.int .u16 0,.int .u16 0,.int .u16 0,.int .u16 0,.int .u16 0,.int .u16 0,.int .u16 0,.int .u16 0,.int .u16 0,.int .u16 0,.int .u16 0,.int .u16 0,.int .u16 0,.int .u16 0,.int .u16 0,.int .u16 0,.int .u16 0,.int .u16 0,.int .u16 0,.int .u16 0,.int .u16 0,.int .u16 0,.int .u16 0,.int .u16 0,.int .u16 0,.int .u16 0,.int .u16 0,.int .u16 0,.int .u16 0,.int .u16 0,.int .u16 0,.int .u16 0,.int .u16 0,.int .u16 0,.int .u16 0,.int .u16 0,.int .u16 0,.int .u16 0,.int .u16 0,.int .u16 0,.int .u16 0,.int .u16 0] (arrA zs) (by rw[x1R,h];exact y8g) (by rw[x1R,h];rfl) (x8z zs);simpa[arrA]using D
theorem y5I(t e:TypeId)(W:prog.underlying t=some (.slice e))(hi:(prog.info? e).map (fun i=>(i.size,i.zero.map (·.cells.size)))=some (64,some 64))(w:World)(zs:List Int)(h:zs.length=64) :
  (Instr.buildSlice t 1 #[(0,.agg (zs.map (Value.int .u16)).toArray)]).run prog w=.ok (.slice (some ⟨w.heap.size,0,none⟩) 1 1) (w.alloc (.cells (zs.map (Value.int .u16)).toArray e)):=by
 obtain⟨A,H,D⟩:=Option.map_eq_some_iff.1 hi;simp only[Prod.mk.injEq]at D;obtain⟨D,Z⟩:=D;obtain⟨z,o,k⟩:=Option.map_eq_some_iff.1 Z;refine run_buildSlice w t e 1 _ _ A z W H o n2M n2M ?_;rw[D];have:=Great.fill_whole (s:=64) e8M [Value.agg (zs.map (Value.int .u16)).toArray] ((Array.range (1*64)).map (z.cells[·%z.cells.size]!)) (fun v N=>by simp at N;subst N;simp[Value.cells,h]) M7L;simpa[Value.cells]using this
theorem y4P(C:Array Value)(N:C.size=64)(zs:List Int)(h:zs.length=64):List.foldl (fun(cs:Array Value) (x:Value×Nat)=>cs.setIfInBounds x.2 x.1) C ((zs.map (Value.int .u16)).zipIdx)=(zs.map (Value.int .u16)).toArray:=by
 have D:=Great.foldl_set 0 (zs.map (Value.int .u16)) 0 C;simp only[Nat.zero_add]at D;apply Array.ext_getElem?;intro k;rw[D.2 k];by_cases G:k<64
 ·rw[if_pos P8P];simp
 ·grind
theorem z7K:(prog.info? 272).map (fun i=>(i.size,i.zero.map (·.cells.size)))=some (64,some 64):=f4x
theorem z7L:∃i z,prog.info? 272=some i/\i.zero=some z/\i.size=64/\i.bytes=128/\z.cells.size=64:=by
 have h:(prog.info? 272).map (fun i=>(i.size,i.bytes,i.zero.map (·.cells.size)))=some (64,128,some 64):=f4x;exact I3E
def Ix(w:World)(g:Nat)(xs:List Int):Prop:=xs.length=17408/\w.heap[g]?=some (.cells (arrA xs) 270 (0,0))
theorem Ix.lt{w:World}{g:Nat}{xs:List Int}(h:Ix w g xs):g<w.heap.size:=(Array.getElem?_eq_some_iff.1 h.2).1
theorem Ix.cell{w:World}{g:Nat}{xs:List Int}(h:Ix w g xs){i:Nat}(hi:i<17408):w.cell? ⟨g,i,none⟩=some (.int .u16 (xs.getD i 0)):=by
 have S:=h.1;rw[cell_of_row _ _ _ _ _ _ h.2];simp[arrA,List.getD,(f6J:i<xs.length)]
theorem Ix.frozen{w:World}{g:Nat}{xs:List Int}(h:Ix w g xs)(i:Nat):w.frozen? ⟨g,i,none⟩=false:=frozen_of_row _ _ _ _ _ h.2
theorem Ix.set{w:World}{g:Nat}{xs:List Int}(h:Ix w g xs)(i:Nat)(v:Int):Ix (w.setCell ⟨g,i,none⟩ (.int .u16 v)) g (xs.set i v):=by
 refine⟨by simp[h.1],?_⟩;rw[heap_setCell_same w g i _ _ _ h.2];simp[arrA,List.map_set]
def Tb(w:World)(g gi:Nat)(bv:Value)(d:Int):Prop:=w.heap[g]?=some (.cells #[.slice (some ⟨gi,0,none⟩) 17408 17408,bv,.int .i64 d] 269 (0,0))
theorem Tb.lt{w:World}{g B:Nat}{P:Value}{d:Int}(h:Tb w g B P d):g<w.heap.size:=(Array.getElem?_eq_some_iff.1 h).1
theorem Tb.cells{w:World}{g B:Nat}{P:Value}{d:Int}(h:Tb w g B P d):w.cell? ⟨g,0,none⟩=some (.slice (some ⟨B,0,none⟩) 17408 17408)/\w.cell? ⟨g,1,none⟩=some P/\w.cell? ⟨g,2,none⟩=some (.int .i64 d) :=
 ⟨S9z,S9z,S9z⟩
theorem Tb.frozen{w:World}{g B:Nat}{P:Value}{d:Int}(h:Tb w g B P d)(i:Nat):w.frozen? ⟨g,i,none⟩=false:=frozen_of_row _ _ _ _ _ h
theorem Tb.set{w:World}{g B:Nat}{P:Value}{d:Int}(h:Tb w g B P d)(D:Value):Tb (w.setCell ⟨g,1,none⟩ D) g B D d:=by
 unfold Tb at h ⊢;rw[heap_setCell_same w g 1 _ _ _ h];rfl
structure Keeps(w w':World)(row:Option Nat):Prop where
 block:∀k,k<w.heap.size->some k≠row->w'.heap[k]?=w.heap[k]?
theorem Keeps.of_below{w w':World}(h:Bw w w')(row:Option Nat):Keeps w w' row:=⟨fun k G _=>h.block k G⟩
theorem Keeps.of_grown{w w':World}{row:Option Nat}(h:w.grownBy w' row):Keeps w w' row:=⟨h.block⟩
theorem Keeps.of_set(w:World)(a:Addr)(v:Value):Keeps w (w.setCell a v) (some a.block):=⟨fun k _ F=>heap_setCell_other w a k v (fun e=>F (by rw[e]))⟩
theorem Ix.keep{w w':World}{g:Nat}{xs:List Int}{row:Option Nat}(h:Ix w g xs)(G:Keeps w w' row)(F:some g≠row):Ix w' g xs:=⟨h.1,by rw[G.block g h.lt F];exact h.2⟩
theorem Tb.keep{w w':World}{g B:Nat}{P:Value}{d:Int}{row:Option Nat}(h:Tb w g B P d)(G:Keeps w w' row)(F:some g≠row):Tb w' g B P d:=by
 have S:=h.lt;unfold Tb at h ⊢;rw[G.block g S F];exact h
theorem Bk.keep{w w':World}{g:Nat}{zs:List Int}{row:Option Nat}(h:Bk w g zs)(G:Keeps w w' row)(F:some g≠row):Bk w' g zs:=by
 have S:=h.lt;unfold Bk at h ⊢;rw[G.block g S F];exact h
theorem Ob.keep{e:TypeId}{w w':World}{B:Nat}{v:Value}{bs:List (List Int)}{row:Option Nat}(h:Ob e w B v bs)(G:Keeps w w' row)(F:∀k,row=some k->k<B):Ob e w' B v bs:=by
 refine⟨h.1,?_⟩;obtain⟨D,Z | ⟨g,M,P,N,Y,t,r⟩⟩:=h.2
 ·exact⟨D,.inl Z⟩
 ·refine⟨D,.inr ⟨g,M,P,N,Y,?_,r⟩⟩;rw[G.block g (Array.getElem?_eq_some_iff.1 t).1 ?_]
  ·exact t
  ·grind
theorem x2y{w w':World}{b n:Nat}{D:DataW Unit}{row:Option Nat}(h:w.ownsMap prog 272 (plainElem prog 270) b n D)(G:Keeps w w' row)(F:some b≠row):w'.ownsMap prog 272 (plainElem prog 270) b n D:=by
 have S:=h.lt;obtain⟨A,clock,C,r⟩:=h;exact⟨A,clock,by rw[G.block b S F];exact C,r⟩
theorem below_grown{B:Nat}{w w1 w2:World}{row:Option Nat}(h:Below B w w1)(Y:w1.grownBy w2 row)(l:B<=w1.heap.size)(hr:∀k,row=some k->B<=k):Below B w w2:=h.grown Y l hr
def x5J(w:World)(rs:List Tri.Rg)(d:Int)(e:Ending)(w':World):Prop:=∃a,e=.returned (.pointer (some a))/\T4 w' w.heap.size (.pointer (some a)) rs d/\Below w.heap.size w w'
def bsAt(f:Int->Int)(p:Nat):List (List Int):=Tri.blkA [] ((Tri.pcs f).take p)
theorem z3u(f:Int->Int)(p:Nat)(A:p<17408):(Tri.pcs f).getD p []=Tri.blk f p:=by
 simp[Tri.pcs,List.getD,A]
theorem z0S(f:Int->Int):bsAt f 17408=Tri.bls f:=by
 unfold bsAt Tri.bls;rw[List.take_of_length_le (by rw[Tri.x4O];exact f6J)]
theorem x9R(f:Int->Int)(p:Nat)(A:p<17408):bsAt f (p+1)=Tri.push (bsAt f p) (Tri.blk f p):=by
 unfold bsAt;rw[Tri.x9Q _ _ _ (by rw[Tri.x4O];exact A),z3u f p A]
theorem z3k(f:Int->Int)(p:Nat)(A:p<17408):(Tri.idx f).getD p 0=(bsAt f p).idxOf (Tri.blk f p):=by
 rw[Tri.idx,Tri.y8d _ _ _ (by rw[Tri.x4O];exact A),z3u f p A];rfl
theorem z0T(f:Int->Int)(p:Nat):(bsAt f p).length<=p:=by
 have:=(Tri.y2V [] ((Tri.pcs f).take p)).2;rw[List.length_take]at this;unfold bsAt;simp only[List.length_nil]at this;omega
theorem y4l(f:Int->Int)(p:Nat):(bsAt f p).Nodup:=Tri.y4k List.nodup_nil
theorem y6F{f:Int->Int}(h:∀c,0<=f c/\f c<=65535)(p:Nat):x5Z (bsAt f p):=by
 intro b C;rcases Tri.blkA_sub C with h1 | h1
 ·cases h1
 ·have Z:=List.mem_of_mem_take h1;rw[Tri.pcs,List.mem_map]at Z;obtain⟨q,_,rfl⟩:=Z;exact y2W h q
theorem z6g{f:Int->Int}{p:Nat}(A:p<17408)(U:Tri.blk f p∈bsAt f p):bsAt f (p+1)=bsAt f p/\(Tri.idx f).getD p 0=(bsAt f p).idxOf (Tri.blk f p)/\(bsAt f p).idxOf (Tri.blk f p)<(bsAt f p).length :=
 ⟨by rw[x9R f p A,Tri.y9l U],z3k f p A,List.idxOf_lt_length_iff.2 U⟩
theorem z2E{f:Int->Int}{p:Nat}(A:p<17408)(U:Tri.blk f p ∉ bsAt f p):bsAt f (p+1)=bsAt f p++[Tri.blk f p]/\(Tri.idx f).getD p 0=(bsAt f p).length:=by
 refine⟨by rw[x9R f p A];unfold Tri.push;rw[if_neg U],?_⟩;rw[z3k f p A];have D:¬(bsAt f p).idxOf (Tri.blk f p)<(bsAt f p).length:=fun Z=>U (List.idxOf_lt_length_iff.1 Z);have Z:(bsAt f p).idxOf (Tri.blk f p)<=(bsAt f p).length:=List.idxOf_le_length;omega
theorem z5t(n:Nat):madeCells #[.int .u16 0] n=arrA (List.replicate n 0):=by
 apply Array.ext';rw[toList_madeCells_one];simp[arrA]
theorem z8T(w:World)(d:Int)(u:World)(h:u=((w.alloc (.cells (madeCells #[.int .u16 0] 17408) 270)).alloc (.cells #[.slice (some ⟨w.heap.size,0,none⟩) 17408 17408,.slice none 0 0,.int .i64 d] 269)).alloc (.map #[] 0)) :
  Bw w u/\Ix u w.heap.size (List.replicate 17408 0)/\Tb u (w.heap.size+1) w.heap.size (.slice none 0 0) d/\u.ownsMap prog 272 (plainElem prog 270) (w.heap.size+1+1) 0 (dat []):=by
 subst h;refine⟨(((Below.refl _ w).alloc (l0r _) _).alloc M7N _).alloc P8P _,⟨List.length_replicate,?_⟩,?_,?_⟩
 ·rw[Below.heap_alloc _ _ _ P8P,Below.heap_alloc _ _ _ M7N,heap_alloc_last,z5t]
 ·unfold Tb;rw[Below.heap_alloc _ _ _ M7N];have:=heap_alloc_last (w.alloc (.cells (madeCells #[.int .u16 0] 17408) 270)) (.cells #[.slice (some ⟨w.heap.size,0,none⟩) 17408 17408,.slice none 0 0,.int .i64 d] 269);rwa [(M7N:(w.alloc (.cells (madeCells #[.int .u16 0] 17408) 270)).heap.size=w.heap.size+1)]at this
 ·have:=World.ownsMap_made (H:=Unit) ((w.alloc (.cells (madeCells #[.int .u16 0] 17408) 270)).alloc (.cells #[.slice (some ⟨w.heap.size,0,none⟩) 17408 17408,.slice none 0 0,.int .i64 d] 269)) prog 272 (plainElem prog 270);rwa [(M7N:((w.alloc (.cells (madeCells #[.int .u16 0] 17408) 270)).alloc (.cells #[.slice (some ⟨w.heap.size,0,none⟩) 17408 17408,.slice none 0 0,.int .i64 d] 269)).heap.size=w.heap.size+1+1)]at this
theorem z4E(xs:List Int)(l:List Nat)(h:xs.length=l.length)(J:∀j,j<l.length->xs.getD j 0=((l.getD j 0:Nat):Int)):xs=l.map fun n:Nat=>(n:Int):=by
 apply List.ext_getElem (by rw[h,List.length_map]);intro j a b;have:=J j T5W;rw[List.getElem_map];simp only[List.getD,List.getElem?_eq_getElem a,Option.getD_some]at this;rw[this,List.getElem?_eq_getElem T5W];rfl
theorem z4T(l:List Nat)(h:∀j,j<l.length->l.getD j 0<=65535):Fit .u16 (l.map fun n:Nat=>(n:Int)):=by
 intro z o;obtain⟨n,E,rfl⟩:=List.mem_map.1 o;obtain⟨j,K,rfl⟩:=List.getElem_of_mem E;have F:=h j K;simp only[List.getD,List.getElem?_eq_getElem K,Option.getD_some]at F;simp[IntKind.min,IntKind.max,IntKind.signed,IntKind.bits];omega
theorem ix_ok(n:Nat)(E:n<=100000){wr:World}{B L:Nat}(zs:List Int)(l:B<=L)(S:zs.length=n)(z:Fit .u16 zs)(t:wr.heap[L]?=some (.cells (arrA zs) 270 (0,0))):Ok .u16 270 wr B (.slice (some ⟨L,0,none⟩) n n) zs:=by
 refine⟨z,by rw[List.length_map];exact f6J,?_⟩;rw[List.length_map,S];refine⟨by rw[List.length_map,Nat.mul_one,S],.inr ⟨L,n,arrA zs,rfl,l,t,l0r _,T7W,by rw[x1R,Nat.mul_one,S],?_⟩⟩;rw[Nat.mul_one,List.take_of_length_le (by rw[Array.length_toList,x1R,S];exact f6J)];simp[arrA]
theorem Ob.lower{e:TypeId}{w:World}{B E:Nat}{v:Value}{bs:List (List Int)}(h:Ob e w B v bs)(C:E<=B):Ob e w E v bs:=by
 refine⟨h.1,h.2.1,?_⟩;rcases h.2.2 with h | ⟨g,M,P,N,Y,r⟩
 ·exact .inl h
 ·exact .inr ⟨g,M,P,N,f6J,r⟩
theorem y8e(f:Int->Int)(j:Nat)(K:j<(Tri.idx f).length):(Tri.idx f).getD j 0<=65535:=by
 have D:=Tri.idx_len f;have Z:=Tri.y6E f;have R:=(Tri.y6D f j f6J).2;omega
theorem fin4{w wr:World}{rs:List Tri.Rg}{d:Int}{L I E:Nat}{P:Value}{xs:List Int}(t:Tri.Val 0 rs)(hd:0<=d/\d<=65535)(D:w.heap.size<=L)(Z:w.heap.size<=I)(R:w.heap.size<=E)
  (i:Ix wr L xs) (J:∀j,j<17408->xs.getD j 0=(((Tri.idx (Tri.get d rs)).getD j 0:Nat):Int)) (r:Tb wr I L P d) (l:Ob 272 wr (E+1) P (bsAt (Tri.get d rs) 17408)) (C:Bw w wr) :
  x5J w rs d (.returned (.pointer (some ⟨I,0,none⟩))) wr:=by
 have A:=Tri.idx_len (Tri.get d rs);have n:=z4E xs (Tri.idx (Tri.get d rs)) (i.1.trans A.symm) (fun j K=>J j (by rw[A]at K;exact K));have o:=z4T (Tri.idx (Tri.get d rs)) (y8e (Tri.get d rs));have y:=ix_ok 17408 f6J xs D i.1 (by rw[n];exact o) i.2;rw[n]at y;rw[z0S]at l;exact⟨_,rfl,⟨t,hd,I,_,P,rfl,Z,r,y,l.lower f6J⟩,C⟩
theorem y6W(v:Value)(rs:List Tri.Rg)(d:Int)(w:World)(hv:Sr w v rs)(t:Tri.Val 0 rs)(hd:0<=d/\d<=65535) :
  Calls prog 239 #[v,.int .i64 d] w (x5J w rs d):=by
 have HV:=O t;have cK:=O hv;have aF:Hid (∀c,0<=Tri.get d rs c/\Tri.get d rs c<=65535):=fun c=>Tri.y0o hd t;have cg:Hid (∀wr L I E bv m,w.heap.size<=L->w.heap.size<=I->w.heap.size<=E->Ix wr L m->(∀j,j<17408->m.getD j 0=(((Tri.idx (Tri.get d rs)).getD j 0:Nat):Int))->Tb wr I L bv d->Ob 272 wr (E+1) bv (bsAt (Tri.get d rs) 17408)->Bw w wr->x5J w rs d (.returned (.pointer (some ⟨I,0,none⟩))) wr):=fun wr L I E bv m a1 a2 a3 a4 a5 a6 a7 a8=>fin4 t hd a1 a2 a3 a4 a5 a6 a7 a8
 have cf:Hid (∀(k p:Nat),(∀j,j<k->Tri.hi (rs.getD j (0,0,0))<64*(p:Int))->Tri.blk (Tri.get d (rs.drop k)) p=Tri.blk (Tri.get d rs) p):=by
  intro k p h;unfold Tri.blk;refine List.map_congr_left fun i _=>?_;exact Tri.z1x k fun j hj _=>by have:=h j hj;exact f6J
 have bG:Hid (∀(u:Value) (k p:Nat) (w':World),Sr w' u (rs.drop k)->p<17408->Calls prog 280 #[u,.int .i64 ((p:Int)*64),.int .i64 d] w' (y6e w' (Tri.blk (Tri.get d (rs.drop k)) p))):=fun u k p w' h1 h2=>z6o u _ d p w' h1 (Tri.z2L t k) hd h2;obtain⟨d1,d2⟩:=hd;have dy:=@run_makeMap prog;have dx:∀w,(Instr.makeSlice 266 (.int .i64 17408) (.int .i64 17408)).run prog w=.ok (.slice (some ⟨w.heap.size,0,none⟩) 17408 17408) (w.alloc (.cells (madeCells #[.int .u16 0] 17408) 270)):=run_make_row' (P:=prog) 266 270 (.int .u16 0) 2 underlying266 Tryz.info270 rfl .i64 .i64 17408 f6J f6J;have cR:=O (z8T w d);generalize Tri.get d rs=f at *;go_enter func239,ntmps239;go_wp2;have cL:=V cR _ rfl;generalize((w.alloc (.cells (madeCells #[.int .u16 0] 17408) 270)).alloc (.cells #[.slice (some ⟨w.heap.size,0,none⟩) 17408 17408,.slice none 0 0,.int .i64 d] 269)).alloc (.map #[] 0)=wz at *;obtain⟨L,bn⟩:∃g,g=w.heap.size:=⟨_,rfl⟩;obtain⟨I,bN⟩:∃g,g=w.heap.size+1:=⟨_,rfl⟩;obtain⟨E,bM⟩:∃g,g=w.heap.size+1+1:=⟨_,rfl⟩;obtain⟨cH,bI,bK,bJ⟩:=cL;rw[<- bM]at bJ;rw[<- bN,<- bn]at bK;rw[<- bn]at bI;have dk:L<I:=f6J;have dq:I<E:=f6J;have aW:w.heap.size<=L:=f6J;rw[<- bM,<- bN,<- bn];clear bn bN bM;go_loopw[0,17] (fun l i wr=>∃(p k:Nat) (bv:Value) (m:List Int),i=.int .i64 p/\p<=17408/\Sr w l (rs.drop k)/\k<=rs.length/\(∀j,j<k->Tri.hi (rs.getD j (0,0,0))<64*(p:Int))/\Ix wr L m/\(∀j,j<p->m.getD j 0=(((Tri.idx f).getD j 0:Nat):Int))/\Tb wr I L bv d/\Ob 272 wr (E+1) bv (bsAt f p)/\wr.ownsMap prog 272 (plainElem prog 270) E p (dat (bsAt f p))/\Bw w wr) (fun _ i _=>17408-(intOf i).toNat)
 case atStart=>exact⟨0,0,_,_,rfl,f6J,by simpa using V cK,f6J,fun j hj=>f6J,bI,fun j hj=>f6J,bK,⟨fun b hb=>(by cases hb),World.ownsRow_nil _ _ _ _⟩,bJ,cH⟩
 case round =>
  clear cH bI bK bJ cK;obtain⟨p,k,bv,m,rfl,hp,hs,hk,bP,hI,bt,hT,hB,hM,ab⟩:=hrel;by_cases aK:p<17408
  ·have cD:Fi ((p:Int)*64):=(by constructor<;>omega);have dr:(0:Int)<=(p:Int):=f6J;have dt:(p:Int)<17408:=f6J;have cx:=O (y9u _ (rs.drop k) ((p:Int)*64) w wr hs ab cD);have cT:=O bt;have HI:=O hI;have HT:=O hT;have HB:=O hB;have HM:=O hM;have cj:=O bP;clear cD hs bt hI hT hB hM bP;go_wp2_with fail;refine(V cx).mono ?_;rintro e w1 ⟨rfl,v1,k1,rfl,aD,aJ,cJ⟩;clear cx;have aD:Sr w v1 (rs.drop (k+k1)):=(by rw[<- List.drop_drop];exact aD);have aJ:k+k1<=rs.length:=by rw[List.length_drop]at aJ;omega
   have bO:∀j,j<k+k1->Tri.hi (rs.getD j (0,0,0))<64*(p:Int):=by
    intro j hj;by_cases cX:j<k
    ·exact V cj j cX
    ·have:=cJ (j-k) f6J;rw[show(rs.drop k).getD (j-k) (0,0,0)=rs.getD j (0,0,0)by simp[List.getD,List.getElem?_drop,(f6J:k+(j-k)=j)]]at this;omega
   have aP:=V bG v1 (k+k1) p w1 (aD.below ab) aK;rw[V cf _ _ bO]at aP;have aP:=O aP;have ci:=O bO;clear cj cJ bO;generalize k+k1=kk at *;go_wp2_with fail;refine c0m aP fun w2 aI=>?_;clear aP;have am:Good (Tri.blk f p):=y2W (V aF) p;have bL:=y6F (V aF) p;have az:=O (z7n (bsAt f p) bL (y4l f p) (Tri.blk f p) am);have cW:=z0T f p;have bB:=O (fun hm=>z6g (f:=f) aK hm);have aN:=O (fun hm=>z2E (f:=f) aK hm);have aj:=y3u am;have U:=am.1;have du:=ab.size;have cI:Bw w (w2.alloc (.cells (arrA (Tri.blk f p)) 272)):=(ab.trans (aI.mono ab.size)).alloc (Nat.le_trans ab.size aI.size) _;have K3:Keeps w1 (w2.alloc (.cells (arrA (Tri.blk f p)) 272)) none:=Keeps.of_below (aI.alloc aI.size _) none;have ai:=O ((V HI).keep K3 (by simp));have r:=O ((V HT).keep K3 (by simp));have z:=O ((V HB).keep K3 (fun k h=>by cases h));have aC:=x2y (V HM) K3 (by simp);have aS:Bk (w2.alloc (.cells (arrA (Tri.blk f p)) 272)) w2.heap.size (Tri.blk f p):=Bk.new w2 _ _ rfl;have ag:=aS.box;have db:=fun w=>y5T w (Tri.blk f p) U;have dp:E<w1.heap.size:=(V HM).lt;have de:=aI.size;clear HI HT HB HM K3 aI ab;generalize Tri.blk f p=zs,bsAt f p=bs at *;have cU:((arrA zs).toList:List Value)=zs.map (Value.int .u16):=(by simp[arrA]);have bV:(arrA zs).size=64:=(by rw[x1R,U]);have aL:=O ag;have aM:=O aj;have bF:=O aC;have ba:=O cI;have bw:=O aS;clear ag aj aC cI aS
   set_option maxRecDepth 100000 in
   go_upto_region 9 with fail;clear db cU bV;have aC:=V bF;have aj:=V aM;have ag:=V aL;generalize w2.alloc (.cells (arrA zs) 272)=w3 at *;go_wp2_with(first| refine wpList_load_mid rfl 272 (.tmp 9) rfl w2.heap.size 0 rfl (zs.map (Value.int .u16)) _ ag underlying272 rfl (x6y U) ?_|(at_lookup;refine wpList_lookup_own_ok_int _ rfl _ _ 357 rfl 272 270 .u16 y2T underlying357 underlying270 (z6w _) E p (dat bs) rfl aC _ (keyL zs) rfl aj ?_));intro c q cM;have ai:=V ai;have r:=V r;have bu:=z;have bj:=ai.cell (i:=p) aK;have bm:=ai.frozen p;have bA:∀j,j<kk->Tri.hi (rs.getD j (0,0,0))<64*((p+1:Nat):Int):=fun j hj=>(by have:=V ci j hj;exact f6J);have be:=O bA
   have bh:Hid (∀n:Int,n=(((Tri.idx f).getD p 0:Nat):Int)->∀j,j<p+1->(m.set p n).getD j 0=(((Tri.idx f).getD j 0:Nat):Int)):=by
    intro n hn j hj;rw[x6W m p j n (by rw[ai.1];exact aK)];by_cases bR:j=p
    ·rw[if_pos bR,hn,bR]
    ·rw[if_neg bR];exact V cT j f6J
   clear bA ci;by_cases hm:zs∈bs
   ·obtain⟨e1,e2,e3⟩:=V bB hm;have T:Maps.has (dat bs) (keyL zs)=true:=by rw[(V az).1,d0t hm]
    have hc:c=(bs.idxOf zs:Int):=by
     rw[(V az).2 hm]at q;simpa using q.symm
    subst hc;rw[T];have aQ:=O (V bh (bs.idxOf zs:Int) (by rw[e2]));have cE:=ai.set p (bs.idxOf zs:Int);have K5:=Keeps.of_set w3 ⟨L,p,none⟩ (.int .u16 (bs.idxOf zs:Int));have cG:=r.keep K5 P8Q;have cC:=(V z).keep K5 (fun k h=>G5m);have cF:=(x2y aC K5 P8Q).mono (Nat.le_succ p);have cV:=(V ba).setCell (p:=⟨L,p,none⟩) aW (.int .u16 (bs.idxOf zs:Int));obtain⟨y0,y1,y2⟩:=r.cells;have cP:=O cE;have cS:=O cG;have cO:=O cC;have cQ:=O cF;have E1:=O e1;have dv:=O ai;clear q cM T az bB aN bh cE K5 cG cC cF e1 e2 bF aC r ai ag aL ba z bu bw aj aM hm cW bL;generalize(bs.idxOf zs:Int)=n at *;go_wp2
    go_roundw
    case rel=>exact⟨p+1,kk,bv,m.set p n,by go_num,f6J,aD,aJ,V be,V cP,V aQ,V cS,by rw[V E1];exact V cO,by rw[V E1];exact V cQ,cV⟩
    case measure=>exact g8a
   ·obtain⟨e1,e2⟩:=V aN hm;have T:Maps.has (dat bs) (keyL zs)=false:=(by rw[(V az).1,d0f hm]);rw[T];have aQ:=O (V bh (bs.length:Int) (by rw[e2]));have E1:=O e1;have z:=V z;obtain⟨s,J,rfl,di,dj⟩:=z.sb.shape;obtain⟨y0,y1,y2⟩:=r.cells;have cY:(0:Int)<=(bs.length:Int):=f6J;have cZ:(bs.length:Int)<=65535:=f6J;have dh:(Lit.int .u16 (bs.length:Int)).wf=true:=z3J ⟨cY,cZ⟩;have ce:=O z;have cz:=O r;have cw:=O ai;clear q cM T az bB aN bh e1 e2 bF r ai aL z bu aM bL bj bm;go_wp2_with(first| refine wpList_load_mid rfl 272 (.tmp 9) rfl w2.heap.size 0 rfl (zs.map (Value.int .u16)) _ ag underlying272 rfl (x6y U) ?_|(at_mapUpdate;refine wpList_mapUpdate_own _ rfl _ _ _ 357 rfl 272 270 y2T underlying357 (plainElem prog 270) E p (dat bs) rfl aC T7X _ _ (keyL zs) rfl rfl aj (.lit (.int .u16 (bs.length:Int))) [] (plainElem_int underlying270 dh) ?_));intro X S aV;have K4:=Keeps.of_grown aV;have ar:=(V cz).keep K4 P8Q;have aH:=(V cw).keep K4 P8Q;have aR:=(V ce).keep K4 (fun k h=>by cases h;exact f6J);have bp:=(V bw).keep K4 P8Q;have aw:=below_grown (V ba) aV (V ba).size (fun k h=>by cases h;exact f6J);rw[<- y3c]at S;have a:=aR.2;have A:=a.lt;obtain⟨i0,z0,bQ,bX,bY,bZ,cd⟩:=z7L;obtain⟨x0,x1,x2⟩:=ar.cells;have dw:=ar.frozen 1;have af:=y4P #[.int .u16 0,.int .u16 0,.int .u16 0,.int .u16 0,.int .u16 0,.int .u16 0,.int .u16 0,.int .u16 0,.int .u16 0,.int .u16 0,.int .u16 0,.int .u16 0,.int .u16 0,.int .u16 0,.int .u16 0,.int .u16 0,.int .u16 0,.int .u16 0,.int .u16 0,.int .u16 0,.int .u16 0,.int .u16 0,.int .u16 0,.int .u16 0,.int .u16 0,.int .u16 0,.int .u16 0,.int .u16 0,.int .u16 0,.int .u16 0,.int .u16 0,.int .u16 0,.int .u16 0,.int .u16 0,.int .u16 0,.int .u16 0,.int .u16 0,.int .u16 0,.int .u16 0,.int .u16 0,.int .u16 0,.int .u16 0,.int .u16 0,.int .u16 0,.int .u16 0,.int .u16 0,.int .u16 0,.int .u16 0,.int .u16 0,.int .u16 0,.int .u16 0,.int .u16 0,.int .u16 0,.int .u16 0,.int .u16 0,.int .u16 0,.int .u16 0,.int .u16 0,.int .u16 0,.int .u16 0,.int .u16 0,.int .u16 0,.int .u16 0,.int .u16 0] rfl zs U;have dl:=S.lt;have bU:∀v∈zs.map (Value.int .u16),v.oneCell'=true:=x0R .u16 zs;have bS:some I≠(Value.slice s bs.length J).ownBlock:=fun e=>s8W;have bS:some I≠(Value.slice s bs.length J).ownBlock:=fun e=>by have:=(A _ e.symm).1;omega
    have cB:∀(W y:World) (o:Obj),W.heap=(X.alloc o).heap->W.grownBy y (Value.slice s bs.length J).ownBlock->Keeps X y (Value.slice s bs.length J).ownBlock:=by
     intro W y o hW hg
     exact⟨fun k hk da=>by
      rw[hg.block k (by rw[hW];exact P8Q) da,hW]
      exact Below.heap_alloc X o k hk⟩
    have Z:=O cB;have bE:=O bS
    have aO:Hid (∀(y:World) (x:Value),Tb y I L (.slice s bs.length J) d->∀gg M,x=.slice (some ⟨gg,0,none⟩) (bs.length+1) M->(Instr.storeAt 267 (.pointer (some ⟨I,1,none⟩)) x).run prog y=.ok () (y.setCell ⟨I,1,none⟩ x)):=by
     intro y x B gg M hx;subst hx;obtain⟨_,q1,_⟩:=B.cells;have q2:=B.frozen 1;go_simp
    have aY:(Instr.loadAt 267 (.pointer (some ⟨I,1,none⟩))).run prog X.drew=.ok (.slice s bs.length J) X.drew:=by
     have q1:X.drew.cell? ⟨I,1,none⟩=some (.slice s bs.length J):=x1;go_simp
    have aG:(Instr.loadAt 267 (.pointer (some ⟨I,1,none⟩))).run prog (X.drew.alloc (.cells (zs.map (Value.int .u16)).toArray 272))=.ok (.slice s bs.length J) (X.drew.alloc (.cells (zs.map (Value.int .u16)).toArray 272)):=by
     have q1:(X.drew.alloc (.cells (zs.map (Value.int .u16)).toArray 272)).cell? ⟨I,1,none⟩=some (.slice s bs.length J):=by
      rw[((Below.refl _ X.drew).alloc (l0r _) _).cell (x0a (w:=X) x1)];exact x1
     generalize X.drew.alloc (.cells (zs.map (Value.int .u16)).toArray 272)=wq at *;go_simp
    have aZ:=run_loadAt_mid (P:=prog) X.drew w2.heap.size 0 272 (zs.map (Value.int .u16)) _ bp.box underlying272 rfl (x6y U);have af:=y5I 267 272 underlying267 z7K X.drew zs U;have G:(X.drew.alloc (.cells (zs.map (Value.int .u16)).toArray 272)).ownsRow (E+1) 272 64 (.slice s bs.length J) bs.length (x2e bs):=World.ownsRow.alloc (w:=X.drew) a _
    have ae:∀j u,(zs.map (Value.int .u16))[j]?=some u->(X.drew.alloc (.cells (zs.map (Value.int .u16)).toArray 272)).cell? ((⟨X.heap.size,0,none⟩:Addr).add j)=some u:=by
     intro j u hj;have h9:=heap_alloc_last X.drew (.cells (zs.map (Value.int .u16)).toArray 272);rw[addr_add,Nat.zero_add,cell_of_row _ X.heap.size j _ _ _ h9];simpa using hj
    have bT:(zs.map (Value.int .u16)).length=1*64:=P8Q;have N:E+1<=(X.drew.alloc (.cells (zs.map (Value.int .u16)).toArray 272)).heap.size:=(by have h9:X.drew.heap.size=X.heap.size:=rfl;exact P8Q);have bH:(X.drew.alloc (.cells (zs.map (Value.int .u16)).toArray 272)).heap.size=X.heap.size+1:=(by have h9:X.drew.heap.size=X.heap.size:=rfl;simp);have bC:Hid (some L≠(Value.slice s bs.length J).ownBlock):=fun e=>s8W;have bD:Hid (some E≠(Value.slice s bs.length J).ownBlock):=fun e=>s8W
    have Y:Hid (∀(y:World) (x:Value),y.ownsRow (E+1) 272 64 x (bs.length+1) (x2e bs++zs.map (Value.int .u16))->Ob 272 y (E+1) x (bs++[zs])):=by
     intro y x h;refine⟨fun b hb=>?_,?_⟩
     ·rcases List.mem_append.1 hb with h1 | h1
      ·exact aR.1 b h1
      ·simp at h1;subst h1;exact am
     ·rw[y4h,x8B,List.length_append];exact h
    have C:Hid (∀(y:World) (x:Value),Tb y I L (.slice s bs.length J) d->Ix y L m->y.ownsMap prog 272 (plainElem prog 270) E (p+1) (dat (bs++[zs]))->Ob 272 y (E+1) x (bs++[zs])->Bw w y ->
      ((y.setCell ⟨I,1,none⟩ x).cell? ⟨I,0,none⟩=some (.slice (some ⟨L,0,none⟩) 17408 17408)/\(y.setCell ⟨I,1,none⟩ x).cell? ⟨I,1,none⟩=some x/\(y.setCell ⟨I,1,none⟩ x).cell? ⟨I,2,none⟩=some (.int .i64 d))/\(y.setCell ⟨I,1,none⟩ x).cell? ⟨L,p,none⟩=some (.int .u16 (m.getD p 0))/\(y.setCell ⟨I,1,none⟩ x).frozen? ⟨L,p,none⟩=false /\
      (Ix ((y.setCell ⟨I,1,none⟩ x).setCell ⟨L,p,none⟩ (.int .u16 (bs.length:Int))) L (m.set p (bs.length:Int))/\Tb ((y.setCell ⟨I,1,none⟩ x).setCell ⟨L,p,none⟩ (.int .u16 (bs.length:Int))) I L x d/\Ob 272 ((y.setCell ⟨I,1,none⟩ x).setCell ⟨L,p,none⟩ (.int .u16 (bs.length:Int))) (E+1) x (bs++[zs]) /\
       ((y.setCell ⟨I,1,none⟩ x).setCell ⟨L,p,none⟩ (.int .u16 (bs.length:Int))).ownsMap prog 272 (plainElem prog 270) E (p+1) (dat (bs++[zs]))/\Bw w ((y.setCell ⟨I,1,none⟩ x).setCell ⟨L,p,none⟩ (.int .u16 (bs.length:Int))))):=by
     intro y x a1 a2 a3 a4 a5;have b1:=a1.set x;have k1:=Keeps.of_set y ⟨I,1,none⟩ x;have b2:=a2.keep k1 P8Q;have b3:=x2y a3 k1 P8Q;have b4:=a4.keep k1 (fun k h=>G5m);have b5:=a5.setCell (p:=⟨I,1,none⟩) (f6J:w.heap.size<=I) x;have k2:=Keeps.of_set (y.setCell ⟨I,1,none⟩ x) ⟨L,p,none⟩ (.int .u16 (bs.length:Int));exact⟨b1.cells,b2.cell aK,b2.frozen p,b2.set p _,b1.keep k2 P8Q,b4.keep k2 (fun k h=>G5m),x2y b3 k2 P8Q,b5.setCell (p:=⟨L,p,none⟩) aW _⟩
    have aT:w.heap.size<=X.drew.heap.size:=aw.size;have aX:w.heap.size<=E+1:=f6J;have aU:w.heap.size<=(X.drew.alloc (.cells (zs.map (Value.int .u16)).toArray 272)).heap.size:=(by have h9:X.drew.heap.size=X.heap.size:=rfl;have:=aw.size;exact P8Q);clear ag cB bS;go_wp2;refine wp_region_any f4A ?_;change wpAny _ _ _ _ _ _ _ (World.drew _);refine wpAny_take (i:=0) (oi:=⟨some 46,_,_,_,_,_⟩) (v:=.pointer (some ⟨I,0,none⟩)) rfl f4A f4A f4A (fun _ _ _ h=>h) (Or.inl ⟨by rfl,?_⟩) ?_
    ·exact M9h
    simp only[Act.put,sa9,sb9,sc9];refine wpAny_take (i:=1) (oi:=⟨some 47,_,_,_,_,_⟩) (v:=.pointer (some ⟨I,0,none⟩)) rfl f4A f4A f4A (fun _ _ _ h=>h) (Or.inl ⟨by rfl,?_⟩) ?_
    ·exact M9h
    simp only[Act.put,sa9,sb9,sc9];refine wpAny_take (i:=2) (oi:=⟨some 48,_,_,_,_,_⟩) (v:=.pointer (some ⟨I,0,none⟩)) rfl f4A f4A f4A (fun _ _ _ h=>h) (Or.inl ⟨by rfl,?_⟩) ?_
    ·exact M9h
    simp only[Act.put,sa9,sb9,sc9];refine wpAny_take (i:=3) (oi:=⟨some 49,_,_,_,_,_⟩) (v:=.pointer (some ⟨I,1,none⟩)) rfl f4A f4A f4A (fun _ _ _ h=>h) (Or.inl ⟨by rfl,?_⟩) ?_
    ·exact M9h
    simp only[Act.put,sa9,sb9,sc9];refine wpAny_ready (rs:=[4,5]) f4A (by simp) ?_;refine AllReady.cons (o:=⟨some 50,_,_,_,_,_⟩) rfl (fun K hK=>?_) (AllReady.cons (o:=⟨some 51,_,_,_,_,_⟩) rfl (fun K hK=>?_) AllReady.nil)
    ·refine x1W (by rfl) 267 (.tmp 49) (by rfl) _ _ (by rfl) aY ?_;refine hK _ _ ?_;clear hK K;simp only[Act.put,sa9,sb9,sc9];refine wpAny_ready (rs:=[5]) f4A (by simp) ?_;refine AllReady.cons (o:=⟨some 51,_,_,_,_,_⟩) rfl (fun K hK=>?_) AllReady.nil;refine x1W (by rfl) 272 (.tmp 9) (by rfl) _ _ (by rfl) aZ ?_;exact p0y
    ·refine x1W (by rfl) 272 (.tmp 9) (by rfl) _ _ (by rfl) aZ ?_;refine hK _ _ ?_;clear hK K;simp only[Act.put,sa9,sb9,sc9];refine wpAny_ready (rs:=[4,6]) f4A (by simp) ?_;refine AllReady.cons (o:=⟨some 50,_,_,_,_,_⟩) rfl (fun K hK=>?_) (AllReady.cons (o:=⟨some 52,_,_,_,_,_⟩) rfl (fun K hK=>?_) AllReady.nil)
     ·refine x1W (by rfl) 267 (.tmp 49) (by rfl) _ _ (by rfl) aY ?_;exact p0y
     ·refine x2n (by rfl) 267 (.tmp 51) (by rfl) _ _ (by rfl) af ?_;refine hK _ _ ?_;clear hK K;simp only[Act.put,sa9,sb9,sc9];refine wpAny_ready (rs:=[4]) f4A (by simp) ?_;refine AllReady.cons (o:=⟨some 50,_,_,_,_,_⟩) rfl (fun K hK=>?_) AllReady.nil;refine x1W (by rfl) 267 (.tmp 49) (by rfl) _ _ (by rfl) aG ?_;exact s4U
  ·obtain rfl:p=17408:=f6J;have HR:=V cg wr L I E bv m aW f6J f6J hI bt hT hB ab;clear hI bt hT hB hM ab hs bP;go_wp2;go_ret;exact HR
end Go.Proofs.YtbmckadcjdedcaaGreatDoor.Ti
namespace Go.Proofs.YtbmckadcjdedcaaGreatDoor.Ti
open Go.Proofs.Tryz
open Go.RowKit
theorem T4.lower{w:World}{B E:Nat}{t:Value}{rs:List Tri.Rg}{d:Int}(h:T4 w B t rs d)(C:E<=B):T4 w E t rs d:=by
 obtain⟨D,Z,g,S,P,R,H,p,F,x⟩:=h;exact⟨D,Z,g,S,P,R,f6J,p,F.lower C,x.lower C⟩
theorem z3b(v:Value)(rs:List Tri.Rg)(d:Int)(w:World)(N:Sr w v rs)(hd:Fi d):Calls prog 187 #[v,.int .i64 d] w (x6a (fun w' t rs d=>T4 w' w.heap.size t rs d) w rs d):=by
 have k:=O (y1S v rs d w N hd)
 have J:Hid (∀Q,Bw w Q->(Tri.check d rs).2=0->Calls prog 239 #[v,.int .i64 d] Q (x5J Q rs d)):=by
  intro Q C T;obtain⟨D,Z⟩:=Tri.x3Y.1 T;exact y6W v rs d Q (N.below C) D Z
 have o:Hid ((Tri.check d rs).2=0->(Tri.check d rs).1=0):=Tri.x4F 0 none rs;have B:Hid (∀w',Bw w w'->(Tri.check d rs).2≠0->x6a (fun w' t rs d=>T4 w' w.heap.size t rs d) w rs d (.returned (.tuple #[.pointer none,.int .i64 (Tri.check d rs).1,.int .i64 (Tri.check d rs).2])) w'):=fun w' C I=>⟨C,.inr ⟨I,rfl⟩⟩;have j:Hid (∀w' a,Bw w w'->(Tri.check d rs).2=0->T4 w' w.heap.size (.pointer (some a)) rs d->x6a (fun w' t rs d=>T4 w' w.heap.size t rs d) w rs d (.returned (.tuple #[.pointer (some a),.int .i64 0,.int .i64 0])) w'):=fun w' a C I r=>⟨C,.inl ⟨I,a,rfl,r⟩⟩;generalize Tri.check d rs=q at *;obtain⟨P,l⟩:=q;go_enter func187,ntmps187;go_wp2_with fail;refine c0m k fun Q E=>?_;by_cases T:l=0
 ·subst T;have Y:=O (V J Q E rfl);go_wp2_with fail;refine(V Y).mono ?_;rintro e A ⟨a,rfl,r,F⟩;go_wp2;go_ret3;exact V j _ a (E.trans (F.mono E.size)) f5X (r.lower E.size)
 ·have G:(l != 0)=true:=(by simp[T]);go_wp2;go_ret3;exact V B _ E T
end Go.Proofs.YtbmckadcjdedcaaGreatDoor.Ti
