/- Lemmas. -/
import Derived.Test.YtbmckadcjdedcaaGreatDoorK42
import Derived.WalkKit
import Derived.Lib.Walk
import Derived.Lib.SliceRun
import Derived.Lib.AppendZerosOnto
import Derived.Lib.Overlaps
import Derived.Laws.Externs
import Derived.Deep.AppendLies
import Derived.Shelf.RegionOpenPlain
set_option maxHeartbeats 4000000
set_option maxRecDepth 100000
namespace Go.Proofs.YtbmckadcjdedcaaGreatDoor
open Go.Proofs.Tryz
open Go.RowKit
section
variable{p:Prop}
theorem s0m(h:p:=by have:=congrArg List.length D;simp[laid]at this;omega):p:=h
theorem M9l(h:p:=by go_enter func203,ntmps203;go_wp2_with(at_builtin;refine wpList_append_lies _ rfl (.tmp 23) (.tmp 24) 40 rfl B 21 r (.int .i32 0) 1 4 underlying40 hi p i f rfl e8P _ _ _ rfl L ⟨g,0,none⟩ 1 1 [.int .i32 c] rfl rfl X (x0M .i32 _) f6J T7W f6J f6J w.heap.size rfl ?_);intro S J l Z D h3 z;have K:=O (V b S J l Z D h3);go_wp2;go_ret;exact V K):p:=h
theorem m5r(h:p:=by simp[Act.eval,Act.put]):p:=h
theorem e9C(h:p:=by
 rw[<- Y,List.getElem?_take]at K;split at K
 ·simp[World.cell?,Q];simpa using K
 ·cases K):p:=h
theorem T5H(h:p:=by rw[x2z];exact f6J):p:=h
theorem U8V(h:p:=by simpa[Value.ownBlock]using G.symm):p:=h
theorem N6K(h:p:=by have:=congrArg List.length o;simp[laid]at this;omega):p:=h
theorem N7z(h:p:=by simpa using(List.getElem?_eq_some_iff.1 K).1):p:=h
theorem U3A(h:p:=by rw[List.length_take];exact f6J):p:=h
theorem E0S(h:p:=by rwa [List.getElem?_drop]at K):p:=h
end
def x3J(B:Nat)(v:Value)(w:World)(xs:List Int)(e:Ending)(w':World):Prop :=
 ∃v',e=.returned v'/\Ok .i32 21 w' B v' xs/\w.grownBy w' v.ownBlock/\∀g,v'.ownBlock=some g->v.ownBlock=some g\/w.heap.size<=g
theorem x3H{P ops o a}{w}{K:Act->World->Prop}{Q}{E:Prop}
  (C:o.guard=none) (d x:Operand) dT sT (y:o.op=Op.call { callee:=Callee.builtin Builtin.copy,args:=#[d,x],argTypes:=#[dT,sT] })
  v u (hd:a.eval d=v) (J:a.eval x=u) {v' w'} (hr:(Builtin.copy_ #[dT,sT] o.type #[v,u]).run P w=.ok v' w') (hK:K (a.put o.dst v') w') :
  if Region.wanted o (yielded ops a.tmps)=true then Oper.wp P o a w K Q else E:=by
 have q:Region.wanted o (yielded ops a.tmps)=true:=(by simp[Region.wanted,C]);rw[if_pos q];unfold Oper.wp;simp[execOp,y,resolve,invoke,builtin,hd,J,hr,Result.andThen];exact hK
theorem infoR:(prog.info? 21).map (fun i=>(i.zero,i.size,i.bytes))=some (some (.int .i32 0),1,4):=f4x
theorem x3O:∃i,prog.info? 21=some i/\i.zero=some (.int .i32 0)/\i.size=1/\i.bytes=4:=by
 have h:=infoR
 cases hq:prog.info? 21 with
 | none=>rw[hq]at h;simp at h
 | some i=>grind
theorem Fit.ins{xs c}(h:Fit .i32 xs)(T:-2147483648<=c/\c<=2147483647) p:Fit .i32 (Pu.ins xs p c):=by
 intro z hz;unfold Pu.ins at hz;rcases List.mem_append.1 hz with hz | hz
 ·exact h z (List.mem_of_mem_take hz)
 ·rcases List.mem_cons.1 hz with hz | hz
  ·subst hz;exact x0V T
  ·exact h z (List.mem_of_mem_drop hz)
theorem x2z xs p c:(Pu.ins xs p c).length=xs.length+1:=by unfold Pu.ins;exact P8P
theorem y8F xs p c:(Pu.ins xs p c).map (Value.int .i32)=(xs.map (Value.int .i32)).take p++.int .i32 c::(xs.map (Value.int .i32)).drop p:=by unfold Pu.ins;exact M7K
theorem z5M xs c:Pu.ins xs xs.length c=xs++[c]:=by unfold Pu.ins;exact M7K
theorem y5l B v xs c w g(N:Ok .i32 21 w B v xs)(Q:xs.length<=1000000)(P:B<=w.heap.size)
  (C:w.heap[g]?=some (.cells #[.int .i32 c] 21 (0,0))) (T:-2147483648<=c/\c<=2147483647) :
  Calls prog 203 #[v,.int .i64 xs.length,.slice (some ⟨g,0,none⟩) 1 1] w (x3J B v w (Pu.ins xs xs.length c)):=by
 obtain⟨r,hi,p,i,f⟩:=x3O;have L:=N.row
 have X:∀j u,[Value.int .i32 c][j]?=some u->w.cell? ((⟨g,0,none⟩:Addr).add j)=some u:=by
  intro j u F;have:j=0:=(by grind);subst this;simp at F;rw[addr_add,<- F];simp[World.cell?,C]
 have b:Hid (∀S J l,l.ownsRow B 21 1 (.slice (some ⟨S,0,none⟩) (xs.length+1) J) (xs.length+1) (xs.map (Value.int .i32)++[.int .i32 c])->w.grownBy l v.ownBlock->(v.ownBlock=some S\/S=w.heap.size) ->
   x3J B v w (Pu.ins xs xs.length c) (.returned (.slice (some ⟨S,0,none⟩) (xs.length+1) J)) l):=by
  intro S J l Z D h3;refine⟨_,rfl,Ok.of (N.1.ins T _) T5H Z (by rw[x2z]) (by rw[z5M];exact M7M),D,fun k G=>?_⟩;have:k=S:=U8V;subst this;rcases h3 with h3 | h3
  ·exact .inl h3
  ·exact e5w
 obtain⟨R,M,a,A,E⟩:=N.sk.shape;generalize xs.length=n at *;have m:=O L;rw[a];rw[a]at L b;rcases Nat.lt_or_ge n M with H | hge
 ·exact M9l
 ·have d:M=n:=f6J;subst d;exact M9l
theorem y2v w g b o lb cb(F:g≠b) c e(C:w.heap[g]?=some (.cells #[.int .i32 c] 21 (0,0))) cur(Q:w.heap[b]?=some (.cells cur e (0,0)))(G:cur.size≠0) :
  (callFunc 252 #[.slice (some ⟨g,0,none⟩) 1 1,.slice (some ⟨b,o,none⟩) lb cb]).run prog w=.ok (.value (.bool false)) w:=by
 rw[run_callFunc_extern func252 f4x f4x f4x (e:=Extern.SlicesOverlaps.overlaps #[40,40] #[4]) f4x,
  Lib.run_overlaps_apart w 40 4 21 underlying40 1 (fun w=>f4x) ⟨g,0,none⟩ ⟨b,o,none⟩ 1 1 lb cb F 21 e 1 cur.size (by simp[World.shape?,C]) (by simp[World.shape?,Q]) G (by simp[World.frozen?,C]) (by simp[World.frozen?,C])]
 rfl
theorem y6d{us p u x rest}(L:p<us.length) :
  ((laid (laid (us++x::rest) (p+1) (us.drop p)) p [u]).take (us.length+1))=us.take p++u::us.drop p:=by
 have Z:laid (us++x::rest) (p+1) (us.drop p)=us.take p++[us.getD p undef]++us.drop p++rest:=by
  unfold laid
  have P:(us++x::rest).take (p+1)=us.take p++[us.getD p undef]:=by
   rw[List.take_append_of_le_length f6J];rw[List.take_add_one,List.getElem?_eq_getElem L,List.getD,List.getElem?_eq_getElem L];rfl
  have f:(us++x::rest).drop (p+1+(us.drop p).length)=rest:=by
   rw[List.length_drop,List.drop_append,List.drop_eq_nil_of_le f6J,(f6J:p+1+(us.length-p)-us.length=1)];rfl
  rw[P,f]
 rw[Z];unfold laid;have S:(us.take p).length=p:=(by grind);have P:(us.take p++[us.getD p undef]++us.drop p++rest).take p=us.take p:=by grind
 have f:(us.take p++[us.getD p undef]++us.drop p++rest).drop (p+[u].length)=us.drop p++rest:=by
  rw[List.append_assoc,List.drop_append,List.drop_eq_nil_of_le P8P];simp only[List.length_append,List.length_singleton,S,Nat.sub_self,List.drop_zero,List.nil_append]
 rw[P,f];rw[(M7M:us.take p++[u]++(us.drop p++rest)=(us.take p++u::us.drop p)++rest)];rw[List.take_append_of_le_length P8P,List.take_of_length_le P8P]
theorem x5s{us:List Value}(h:∀u∈us,u.oneCell'=true) p:∀u∈us.drop p,u.oneCell'=true:=fun u W=>h u (List.mem_of_mem_drop W)
theorem x3r:(prog.info? 21).map (·.size)=some 1:=by
 obtain⟨i,h,_,Z,_⟩:=x3O;rw[h];simp[Z]
theorem y0u b n cap p g cur us c w(L:p<n)(z:n+1<=cap)(B:cap<=9223372036854775807)(F:g≠b)
  (Q:w.heap[b]?=some (.cells cur 21 (0,0))) (a:cur.size=cap) (Y:cur.toList.take n=us) (I:∀u∈us,u.oneCell'=true)
  (C:w.heap[g]?=some (.cells #[.int .i32 c] 21 (0,0))) :
  Calls prog 203 #[.slice (some ⟨b,0,none⟩) n cap,.int .i64 p,.slice (some ⟨g,0,none⟩) 1 1] w fun e w' =>
   e=.returned (.slice (some ⟨b,0,none⟩) (n+1) cap)/\w'=(w.drew.setCells b (p+1) (us.drop p)).setCells b p [.int .i32 c]:=by
 have o:us.length=n:=(by grind);have N:(us.drop p).length=n-p:=(by grind);have X:∀j,j<cap->(w.cell? ⟨b,j,none⟩).isSome=true:=fun j K=>(by simp[World.cell?,Q];exact f6J);have y:∀j,w.frozen? ⟨b,j,none⟩=false:=fun j=>by simp[World.frozen?,Q]
 have i:∀j u,us[j]?=some u->w.cell? ⟨b,j,none⟩=some u:=fun j u K=>e9C
 have M:∀A P,(callFunc 252 #[.slice (some ⟨g,0,none⟩) 1 1,.slice (some ⟨b,p+1,none⟩) A P]).run prog w=.ok (.value (.bool false)) w:=fun A P=>y2v w g b (p+1) A P F c 21 C cur Q f6J
 have U:∀m t d,(Builtin.copy_ #[40,40] m #[.slice (some ⟨b,p+1,none⟩) (n-p) t,.slice (some ⟨b,p,none⟩) (n+1-p) d]).run prog w.drew=.ok (goInt (us.drop p).length) (w.drew.setCells b (p+1) (us.drop p)):=fun m t d =>
  run_copy_cells w.drew _ _ m 21 b (p+1) (n-p) t ⟨b,p,none⟩ (n+1-p) d (us.drop p) underlying40 x3r (by rw[N];simp only[Nat.min_def];exact G7q)
   (fun j v K=>by rw[addr_add];exact i (p+j) v E0S)
   (fun j K=>X _ f6J) (fun j K=>y _) (x5s I p)
 obtain⟨q,J⟩:∃q,q=w.drew.setCells b (p+1) (us.drop p):=⟨_,rfl⟩
 have r:∀k,k<cap->(q.cell? ⟨b,k,none⟩).isSome=true:=fun k G=>by
  obtain⟨H,Z,D⟩:=x1p b (us.drop p) (p+1) w.drew cur _ _ Q f6J
  have h3:H.size=cap:=s0m
  rw[J];simp[World.cell?,Z];omega
 have T:∀(W:World),(∀x,W.cell? x=q.cell? x)->(∀x,W.frozen? x=q.frozen? x)->∀m t,(Builtin.copy_ #[40,40] m #[.slice (some ⟨b,p,none⟩) (n+1-p) t,.slice (some ⟨g,0,none⟩) 1 1]).run prog W=.ok (goInt 1) (W.setCells b p [.int .i32 c]):=fun W l S m t =>
  run_copy_cells W _ _ m 21 b p (n+1-p) t ⟨g,0,none⟩ 1 1 [.int .i32 c] underlying40 x3r (by simp only[Nat.min_def,List.length_singleton];exact G7q)
   (fun j v K=>by
    rw[addr_add,l,J,World.cell?_setCells_out b _ _ _ _ (fun h _=>absurd h F)];have:j=0:=N7z;subst this;simp at K;subst K;show w.cell? ⟨g,0+0,none⟩=_
    simp[World.cell?,C])
   (fun j K=>by rw[l];simp at K;subst K;exact r _ f6J) (fun j K=>by rw[S,J,World.frozen?_setCells];exact y _) (x0M .i32 c)
 rw[<- J]at U ⊢;have f:¬((p:Int)=(n:Int)):=f6J;have ab:¬(cap=p+1):=f6J;have R:¬(cap=p):=f6J;have mixed:prog.follows Departure.mixedOrders=true:=f4y;have ag:IntKind.i64.wrap ((p:Int)+1)=(p:Int)+1:=s7C;have E:(0:Int)<=(p:Int)+1:=f6J;have ae:p<=n:=f6J;have af:((p:Int)+1).toNat=p+1:=f6J;have s:(p:Int)<=(n:Int)+1:=f6J;clear J r i y X o N Y I Q C a;go_enter func203,ntmps203;go_wp2_with(simp only[M]);go_region_law_o (refine x3H rfl _ _ 40 40 rfl _ _ m5r m5r (U _ _ _) ?_);go_wp2_with(at_builtin;refine wpList_copy_runQ _ rfl _ _ 40 40 rfl _ _ rfl rfl (T _ (fun _=>rfl) (fun _=>rfl) _ _) ?_);go_ret;exact⟨rfl,rfl⟩
theorem y8O a b vs o(h:a.length=o):laid (a++b) o vs=a++vs++b.drop vs.length:=by
 subst h;unfold laid;rw[List.take_left,List.drop_append,List.drop_eq_nil_of_le f6J,Nat.add_sub_cancel_left,List.nil_append]
theorem y8v{us:List Value}{p k u z}(L:p<us.length) :
  ((laid (laid (us.take p++List.replicate (us.length+1-p) z++List.replicate k z) p [u]) (p+1) (us.drop p)).take (us.length+1))=us.take p++u::us.drop p:=by
 have S:(us.take p).length=p:=(by grind);rw[List.append_assoc,y8O _ _ _ p S,y8O _ _ _ (p+1) P8P];rw[(M7M:us.take p++[u]++us.drop p=us.take p++u::us.drop p)];rw[List.take_append_of_le_length P8P,List.take_of_length_le P8P]
theorem y1w n:(Builtin.zeroCells (Value.int .i32 0).cells n).toList=List.replicate n (.int .i32 0):=by
 refine List.ext_getElem (by simp[Builtin.zeroCells,Value.cells]) fun i Z D=>?_;simp[Builtin.zeroCells,Value.cells,Nat.mod_one]
theorem y2l b n cap p g cur us c w(hp:p<n)(aJ:n<=cap)(ay:cap<n+1)(aC:n<=1000000)
  (Q:w.heap[b]?=some (.cells cur 21 (0,0))) (a:cur.size=cap) (Y:cur.toList.take n=us) (I:∀u∈us,u.oneCell'=true)
  (hg:w.heap[g]?=some (.cells #[.int .i32 c] 21 (0,0))) :
  Calls prog 203 #[.slice (some ⟨b,0,none⟩) n cap,.int .i64 p,.slice (some ⟨g,0,none⟩) 1 1] w fun e w'=>∃(G:Nat) (P:Array Value),n+1<=G/\G<=maxLen/\P.size=G /\
   P.toList=us.take p++List.replicate (n+1-p) (.int .i32 0)++List.replicate (G-(n+1)) (.int .i32 0) /\
   e=.returned (.slice (some ⟨w.heap.size,0,none⟩) (n+1) G)/\w'=(((w.alloc (.cells P 21)).drew.setCells w.heap.size p [.int .i32 c]).drew).setCells w.heap.size (p+1) (us.drop p):=by
 obtain⟨r,aw,az,k,A⟩:=x3O;have aq:cap=n:=f6J;subst aq;have o:us.length=cap:=(by rw[<- Y,List.length_take];exact P8P);have N:(us.drop p).length=cap-p:=by rw[List.length_drop,o]
 have i:∀j u,us[j]?=some u->w.cell? ⟨b,j,none⟩=some u:=fun j u K=>e9C
 have T:b<w.heap.size:=(Array.getElem?_eq_some_iff.1 Q).1;have ar:g<w.heap.size:=(Array.getElem?_eq_some_iff.1 hg).1;have X:(cap:Int)+1-(p:Int)=((cap+1-p:Nat):Int):=f6J;have M:p+(cap+1-p)=cap+1:=f6J
 have hold:(Builtin.firstCells r.size p (.slice (some ⟨b,0,none⟩) p cap)).run prog w.drew=.ok (us.take p).toArray w.drew:=by
  rw[k]
  exact run_firstCells_some w.drew 1 p ⟨b,0,none⟩ p cap (us.take p) U3A (fun j v K=>by
   rw[addr_add,Nat.zero_add];rw[List.getElem?_take]at K;split at K
   ·exact i j v K
   ·cases K)
 have F:∀m,(Builtin.append_ #[40,3] m #[.slice (some ⟨b,0,none⟩) p cap,.int .i64 ((cap:Int)+1-(p:Int))]).run prog w =
   .ok (.slice (some ⟨w.heap.size,0,none⟩) (cap+1) (grownCap w (cap+1) cap 21)) (w.drew.alloc (.cells ((us.take p).toArray++Builtin.zeroCells (Value.int .i32 0).cells (cap+1-p)++Builtin.zeroCells (Value.int .i32 0).cells (grownCap w (cap+1) cap 21-(cap+1))) 21)):=fun m=>by
  have h:=Lib.run_append_grow_zeros w 40 3 m 21 r _ .i64 .i64 underlying40 underlying3 aw az (some ⟨b,0,none⟩) p cap (us.take p) hold (cap+1-p) f6J f6J f6J f6J (by rw[A];exact f6J) (by rw[A,M];exact growslice_fits f6J f6J);rw[M]at h;rw[X];exact h
 obtain⟨G,hG⟩:∃G,G=grownCap w (cap+1) cap 21:=⟨_,rfl⟩;obtain⟨P,z⟩:∃P:Array Value,P=(us.take p).toArray++Builtin.zeroCells (Value.int .i32 0).cells (cap+1-p)++Builtin.zeroCells (Value.int .i32 0).cells (G-(cap+1)):=⟨_,rfl⟩;rw[<- hG,<- z]at F;have aj:cap+1<=G:=(by rw[hG];exact grownCap_ge w _ _ _);have C:G<=maxLen:=(by rw[hG];exact grownCap_le_maxLen w (cap+1) cap 21 T7X);have aA:G<=9223372036854775807:=by unfold maxLen at C;exact f6J
 have ab:P.toList=us.take p++List.replicate (cap+1-p) (.int .i32 0)++List.replicate (G-(cap+1)) (.int .i32 0):=by
  rw[z];rw[Array.toList_append,Array.toList_append,y1w,y1w]
 have ae:P.size=G:=by
  have:=congrArg List.length ab;simp at this;omega
 obtain⟨q,J⟩:∃q,q=w.drew.alloc (.cells P 21):=⟨_,rfl⟩;rw[<- J]at F
 have y:∀j,j<cap+1->(q.cell? ⟨w.heap.size,j,none⟩).isSome=true:=fun j K=>by
  rw[J,World.cell?_alloc_at (w:=w.drew) P _ w.heap.size j rfl,Array.getElem?_eq_getElem f6J];rfl
 have B:∀j,q.frozen? ⟨w.heap.size,j,none⟩=false:=fun j=>(by rw[J];exact World.frozen?_alloc_at (w:=w.drew) P _ w.heap.size j rfl);have D:∀j v,w.cell? ⟨b,j,none⟩=some v->q.cell? ⟨b,j,none⟩=some v:=fun j v h=>(by rw[J,World.cell?_alloc_past (w:=w.drew) _ b j T];exact h);have E:q.cell? ⟨g,0,none⟩=some (.int .i32 c):=by rw[J,World.cell?_alloc_past (w:=w.drew) _ g 0 ar];show w.cell? ⟨g,0,none⟩=_;simp[World.cell?,hg]
 have af:∀(W:World),(∀x,W.cell? x=q.cell? x)->(∀x,W.frozen? x=q.frozen? x)->∀m t,(Builtin.copy_ #[40,40] m #[.slice (some ⟨w.heap.size,p,none⟩) (cap+1-p) t,.slice (some ⟨g,0,none⟩) 1 1]).run prog W=.ok (goInt 1) (W.setCells w.heap.size p [.int .i32 c]):=fun W l S m t =>
  run_copy_cells W _ _ m 21 w.heap.size p (cap+1-p) t ⟨g,0,none⟩ 1 1 [.int .i32 c] underlying40 x3r (by simp only[Nat.min_def,List.length_singleton];split<;>omega)
   (fun j v K=>by
    have:j=0:=N7z;subst this;simp at K;subst K
    rw[addr_add,l];exact E)
   (fun j K=>by rw[l];simp at K;subst K;exact y _ f6J) (fun j K=>by rw[S];exact B _) (x0M .i32 c)
 have am:b≠w.heap.size:=f6J
 have ag:∀(W:World),(∀x,W.cell? x=(q.setCells w.heap.size p [.int .i32 c]).cell? x)->(∀x,W.frozen? x=(q.setCells w.heap.size p [.int .i32 c]).frozen? x)->∀m t d,(Builtin.copy_ #[40,40] m #[.slice (some ⟨w.heap.size,p+1,none⟩) (cap-p) t,.slice (some ⟨b,p,none⟩) (cap-p) d]).run prog W=.ok (goInt (us.drop p).length) (W.setCells w.heap.size (p+1) (us.drop p)):=fun W l S m t d =>
  run_copy_cells W _ _ m 21 w.heap.size (p+1) (cap-p) t ⟨b,p,none⟩ (cap-p) d (us.drop p) underlying40 x3r (by rw[N];simp only[Nat.min_def];split<;>omega)
   (fun j v K=>by
    rw[addr_add,l,World.cell?_setCells_out _ _ _ _ _ (fun h _=>absurd h am)]
    exact D _ v (i (p+j) v E0S))
   (fun j K=>by
    rw[l];obtain⟨H,Z,h2⟩:=x1p w.heap.size [.int .i32 c] p q P 21 (0,0) (by rw[J];exact heap_alloc_new w.drew _) P8P
    have h3:H.size=G:=by
     have:=congrArg List.length h2;simp[laid]at this;omega
    simp[World.cell?,Z];omega)
   (fun j K=>by rw[S,World.frozen?_setCells];exact B _) (x5s I p)
 subst J;have ai:∀x,((w.alloc (.cells P 21)).drew).cell? x=(w.drew.alloc (.cells P 21)).cell? x:=fun x=>rfl;have L:∀x,((w.alloc (.cells P 21)).drew).frozen? x=(w.drew.alloc (.cells P 21)).frozen? x:=fun x=>rfl;have f:∀x,(((w.alloc (.cells P 21)).drew.setCells w.heap.size p [.int .i32 c]).drew).cell? x=((w.drew.alloc (.cells P 21)).setCells w.heap.size p [.int .i32 c]).cell? x:=fun x=>rfl;have s:∀x,(((w.alloc (.cells P 21)).drew.setCells w.heap.size p [.int .i32 c]).drew).frozen? x=((w.drew.alloc (.cells P 21)).setCells w.heap.size p [.int .i32 c]).frozen? x:=fun x=>rfl;have mixed:prog.follows Departure.mixedOrders=true:=f4B;have aM:¬((p:Int)=(cap:Int)):=f6J;have aL:IntKind.i64.wrap ((p:Int)+1)=(p:Int)+1:=s7D;have aF:(0:Int)<=(p:Int)+1:=f6J;have aI:p<=cap:=f6J;have aK:((p:Int)+1).toNat=p+1:=f6J;have aG:(p:Int)<=(cap:Int):=f6J;have aD:¬(G=p):=f6J;have aB:¬(G=p+1):=f6J;have aH:¬(cap=p):=f6J
 have U:Hid (∀(e:Ending) (w':World),e=.returned (.slice (some ⟨w.heap.size,0,none⟩) (cap+1) G)->w'=(((w.alloc (.cells P 21)).drew.setCells w.heap.size p [.int .i32 c]).drew).setCells w.heap.size (p+1) (us.drop p)->∃(G:Nat) (P:Array Value),cap+1<=G/\G<=maxLen/\P.size=G /\
   P.toList=us.take p++List.replicate (cap+1-p) (.int .i32 0)++List.replicate (G-(cap+1)) (.int .i32 0) /\
   e=.returned (.slice (some ⟨w.heap.size,0,none⟩) (cap+1) G)/\w'=(((w.alloc (.cells P 21)).drew.setCells w.heap.size p [.int .i32 c]).drew).setCells w.heap.size (p+1) (us.drop p)) :=
  fun e w' he hw=>⟨G,P,aj,C,ae,ab,he,hw⟩
 clear X M hold z hG ab ae y B D E i o N Y I Q hg C;refine Calls.mono (R:=fun e w'=>e=.returned (.slice (some ⟨w.heap.size,0,none⟩) (cap+1) G)/\w'=(((w.alloc (.cells P 21)).drew.setCells w.heap.size p [.int .i32 c]).drew).setCells w.heap.size (p+1) (us.drop p)) ?_ (fun e w' h=>V U e w' h.1 h.2);go_enter func203,ntmps203
 go_wp2_with(first
  | (at_builtin;refine Lib.wpList_append_run _ rfl _ _ _ _ rfl _ _ rfl rfl _ _ (F _) ?_)
  | (at_builtin;refine wpList_copy_runQ _ rfl _ _ 40 40 rfl _ _ rfl rfl (af _ ai L _ _) ?_))
 go_region_law_o (refine x3H rfl _ _ 40 40 rfl (.slice (some ⟨w.heap.size,p+1,none⟩) (cap-p) (G-(p+1))) (.slice (some ⟨b,p,none⟩) (cap-p) (cap-p)) m5r m5r (ag _ f s 3 (G-(p+1)) (cap-p)) ?_);go_wp2;go_ret;exact⟨rfl,rfl⟩
theorem y5k B v xs p c w g(N:Ok .i32 21 w B v xs)(hp:p<=xs.length)(S:xs.length<=1000000)(l:B<=w.heap.size)
  (r:w.heap[g]?=some (.cells #[.int .i32 c] 21 (0,0))) (ab:v.ownBlock≠some g) (T:-2147483648<=c/\c<=2147483647) :
  Calls prog 203 #[v,.int .i64 p,.slice (some ⟨g,0,none⟩) 1 1] w (x3J B v w (Pu.ins xs p c)):=by
 rcases Nat.lt_or_ge p xs.length with H | hge
 ·have L:=N.row;rcases L.2 with⟨_,A⟩ | ⟨b,M,t,af,Q,Y,E,F,a,I⟩
  ·omega
  ·have m:∀u∈xs.map (Value.int .i32),u.oneCell'=true:=x0U .i32 xs;rw[Nat.mul_one]at a I;subst af;have X:g≠b:=fun h=>ab (by rw[h];rfl);have s:(xs.map (Value.int .i32)).length=xs.length:=M7M;rcases Nat.lt_or_ge xs.length M with hr | hr
   ·refine(y0u b xs.length M p g t (xs.map (Value.int .i32)) c w H f6J S7W X Y a I m r).mono ?_;rintro e w' ⟨rfl,rfl⟩;obtain⟨C,Z,D⟩:=x1p b ((xs.map (Value.int .i32)).drop p) (p+1) w.drew t 21 (0,0) Y P8P
    have ae:C.size=M:=s0m
    obtain⟨U,R,o⟩:=x1p b [.int .i32 c] p _ C 21 (0,0) Z P8P
    have i:U.size=M:=N6K
    refine⟨_,rfl,Ok.of (N.1.ins T p) T5H (n:=xs.length+1) (us:=(Pu.ins xs p c).map (Value.int .i32)) ⟨by simp[x2z],.inr ⟨b,M,U,rfl,Q,R,f6J,F,f6J,?_⟩⟩ (by rw[x2z]) rfl,?_,?_⟩
    ·rw[Nat.mul_one,o,D,y8F]
     obtain⟨x,rest,J⟩:∃x rest,t.toList=xs.map (Value.int .i32)++x::rest:=by
      have hd:t.toList=t.toList.take xs.length++t.toList.drop xs.length:=(List.take_append_drop _ _).symm;rw[I]at hd
      cases hq:t.toList.drop xs.length with
      | nil=>grind
      | cons x rest=>exact⟨x,rest,by rw[hd,hq]⟩
     rw[J];have:=y6d (us:=xs.map (Value.int .i32)) (p:=p) (u:=.int .i32 c) (x:=x) (rest:=rest) (by simpa using H);rw[s]at this;exact this
    ·exact x8a (x8a (x1N (x1O w _)) _ _) _ _
    ·intro k y;exact .inl y
   ·refine(y2l b xs.length M p g t (xs.map (Value.int .i32)) c w H E f6J S Y a I m r).mono ?_;rintro e w' ⟨G,P,j,f,K,W,rfl,rfl⟩;have q:((w.alloc (.cells P 21)).drew).heap[w.heap.size]?=some (.cells P 21 (0,0)):=heap_alloc_new w _;obtain⟨C,Z,D⟩:=x1p w.heap.size [.int .i32 c] p (w.alloc (.cells P 21)).drew P 21 (0,0) q P8P
    have ae:C.size=G:=s0m
    obtain⟨U,R,o⟩:=x1p w.heap.size ((xs.map (Value.int .i32)).drop p) (p+1) (((w.alloc (.cells P 21)).drew.setCells w.heap.size p [.int .i32 c]).drew) C 21 (0,0) Z P8P
    have i:U.size=G:=N6K
    refine⟨_,rfl,Ok.of (N.1.ins T p) T5H (n:=xs.length+1) (us:=(Pu.ins xs p c).map (Value.int .i32)) ⟨by simp[x2z],.inr ⟨w.heap.size,G,U,rfl,l,R,f6J,f,f6J,?_⟩⟩ (by rw[x2z]) rfl,?_,?_⟩
    ·rw[Nat.mul_one,o,D,W,y8F];have:=y8v (us:=xs.map (Value.int .i32)) (p:=p) (k:=G-(xs.length+1)) (u:=.int .i32 c) (z:=.int .i32 0) (by simpa using H);rw[s]at this;exact this
    ·exact x3A (x1N (x3A (x1N (x3N (x1O w _) _)) (l0r _) _ _)) (l0r _) _ _
    ·intro k y;have:k=w.heap.size:=(by simpa[Value.ownBlock]using y.symm);exact e5w
 ·have d:p=xs.length:=f6J;subst d;exact y5l B v xs c w g N S l r T
namespace Pu
theorem y9L bias zs k v w:(rdN bias zs k v w).1=0->(rdN bias zs k v w).2.2.length<zs.length:=by
 induction zs generalizing k v w with
 | nil=>intro h;simp[rdN]at h
 | cons z r ih =>
  intro h;rw[rdN]at h ⊢;split
  ·grind
  ·grind
theorem x8o f g zs(s:St)(U:zs.length<=f)(C:zs.length<=g):x5b f zs s=x5b g zs s:=by
 induction f generalizing g zs s with
 | zero =>
  have A:zs=[]:=List.eq_nil_of_length_eq_zero f6J;subst A
  cases g with
  | zero=>rfl
  | succ g=>rfl
 | succ f ih =>
  cases g with
  | zero=>grind
  | succ g =>
   rw[x5b,x5b];by_cases A:zs=[]
   ·rw[if_pos A,if_pos A]
   ·rw[if_neg A,if_neg A];by_cases Z:(rdN s.bias zs 1 0 1).1≠0
    ·rw[if_pos Z,if_pos Z]
    ·rw[if_neg Z,if_neg Z];have S:=y9L s.bias zs 1 0 1 E1w;rw[ih g _ _ f6J f6J]
def rdW(zs:List Int)(s:St):List Int×Int:=x5b zs.length zs s
def after(s:St)(q:Int×Int×List Int):List Int×Int :=
 if q.1≠0 then([],q.1)else if 2147483647<q.2.1 then([],113)else if ¬Utf.okc (stepN s q.2.1)then([],31)else rdW q.2.2 (step s q.2.1)
theorem y9M(s:St):rdW [] s=(s.xs,0):=rfl
theorem y9N{zs}(h:zs≠[])(s:St):rdW zs s=after s (rdN s.bias zs 1 0 1):=by
 unfold rdW after
 cases hl:zs.length with
 | zero=>grind
 | succ f =>
  rw[x5b,if_neg h];by_cases Z:(rdN s.bias zs 1 0 1).1≠0
  ·rw[if_pos Z,if_pos Z]
  ·rw[if_neg Z,if_neg Z];have u:=y9L s.bias zs 1 0 1 E1w;by_cases D:2147483647<(rdN s.bias zs 1 0 1).2.1
   ·rw[if_pos D,if_pos D]
   ·rw[if_neg D,if_neg D];by_cases R:¬Utf.okc (stepN s (rdN s.bias zs 1 0 1).2.1)
    ·rw[if_pos R,if_pos R]
    ·rw[if_neg R,if_neg R];exact x8o _ _ _ _ f6J (l0r _)
theorem y7C zs:decode zs=if 65536<zs.length then([],2)else if basicB zs=false then([],111)else rdW (tail zs) (begin (zs.take (x4S zs 0 0))):=by
 unfold decode;split
 ·rfl
 ·split
  ·rfl
  ·refine x8o _ _ _ _ ?_ (l0r _);unfold tail;split
   ·exact l0r _
   ·rw[List.length_drop];omega
theorem x3Z{s:St}{e v r}(h:e≠0):after s (e,v,r)=([],e):=by unfold after;rw[if_pos h]
theorem y4q{s:St}{v r}(h:2147483647<v):after s (0,v,r)=([],113):=by unfold after;rw[if_neg M7K,if_pos h]
theorem x9Q{s:St}{v r}(h:¬2147483647<v)(D:¬Utf.okc (stepN s v)):after s (0,v,r)=([],31):=by unfold after;rw[if_neg M7K,if_neg h,if_pos D]
theorem z1e{s:St}{v r}(h:¬2147483647<v)(D:Utf.okc (stepN s v)):after s (0,v,r)=rdW r (step s v):=by unfold after;rw[if_neg M7K,if_neg h,if_neg (not_not_intro D)]
theorem z6y bias k v w:rdN bias [] k v w=(112,0,[]):=rfl
theorem y2C{bias z k v w r}(h:dig z<0):rdN bias (z::r) k v w=(110,0,[]):=by rw[rdN,if_pos h]
theorem x9w{bias z k v w r}(h:¬dig z<0)(D:dig z<thr k bias):rdN bias (z::r) k v w=(0,v+dig z*w,r):=by rw[rdN,if_neg h,if_pos D]
theorem x9x{bias z k v w r}(h:¬dig z<0)(D:¬dig z<thr k bias):rdN bias (z::r) k v w =
  rdN bias r (k+1) (v+dig z*w) (if 2147483648<w*(36-thr k bias)then 2147483648 else w*(36-thr k bias)):=by rw[rdN,if_neg h,if_neg D]
end Pu
