import Derived.Test.YtbmckadcjdedcaaGreatDoorF42
import Derived.WalkKit
import Derived.Lib.Walk
import Derived.Lib.SliceRun
import Derived.Lib.AppendZerosOnto
import Derived.Lib.Overlaps
import Derived.Laws.Externs
import Derived.Deep.AppendLies
import Derived.Shelf.RegionOpenPlain
set_option maxHeartbeats 4000000
set_option maxRecDepth 100000
namespace Go.Proofs.YtbmckadcjdedcaaGreatDoor
open Go.Proofs.Tryz
open Go.RowKit
section
variable{p:Prop}
theorem s0m(h:p:=by have:=congrArg List.length D;simp[laid]at this;omega):p:=h
theorem R0C(h:p:=by go_enter func203,ntmps203;go_wp2_with(at_builtin;refine wpList_append_lies _ rfl (.tmp 23) (.tmp 24) 40 rfl B 21 i (.int .i32 0) 1 4 underlying40 hi f p t rfl e8P _ _ _ rfl L ⟨g,0,none⟩ 1 1 [.int .i32 c] rfl rfl y (x0J .i32 _) f6J T7W f6J f6J w.heap.size rfl ?_);intro S J l Z D h3 H;have W:=O (V r S J l Z D h3);go_wp2;go_ret;exact V W):p:=h
theorem m5s(h:p:=by simp[Act.eval,Act.put]):p:=h
theorem U8V(h:p:=by simpa[Value.ownBlock]using G.symm):p:=h
theorem N6K(h:p:=by have:=congrArg List.length o;simp[laid]at this;omega):p:=h
theorem M9r(h:p:=by
 rw[<- a,List.getElem?_take]at K;split at K
 ·simp[World.cell?,Y];simpa using K
 ·cases K):p:=h
theorem G6e(h:p:=by rw[x2C];exact f6J):p:=h
theorem N7z(h:p:=by simpa using(List.getElem?_eq_some_iff.1 K).1):p:=h
theorem U3u(h:p:=by rw[List.length_take];exact f6J):p:=h
theorem E0S(h:p:=by rwa [List.getElem?_drop]at K):p:=h
end
def x3M(B:Nat)(v:Value)(w:World)(xs:List Int)(e:Ending)(w':World):Prop :=
 ∃v',e=.returned v'/\Ok .i32 21 w' B v' xs/\w.grownBy w' v.ownBlock/\∀g,v'.ownBlock=some g->v.ownBlock=some g\/w.heap.size<=g
theorem x3K{P ops o a}{w}{K:Act->World->Prop}{Q}{E:Prop}
  (C:o.guard=none) (d x:Operand) dT sT (i:o.op=Op.call { callee:=Callee.builtin Builtin.copy,args:=#[d,x],argTypes:=#[dT,sT] })
  v u (hd:a.eval d=v) (J:a.eval x=u) {v' w'} (hr:(Builtin.copy_ #[dT,sT] o.type #[v,u]).run P w=.ok v' w') (hK:K (a.put o.dst v') w') :
  if Region.wanted o (yielded ops a.tmps)=true then Oper.wp P o a w K Q else E:=by
 have t:Region.wanted o (yielded ops a.tmps)=true:=(by simp[Region.wanted,C]);rw[if_pos t];unfold Oper.wp;simp[execOp,i,resolve,invoke,builtin,hd,J,hr,Result.andThen];exact hK
theorem infoR:(prog.info? 21).map (fun i=>(i.zero,i.size,i.bytes))=some (some (.int .i32 0),1,4):=f4x
theorem x3R:∃i,prog.info? 21=some i/\i.zero=some (.int .i32 0)/\i.size=1/\i.bytes=4:=by
 have h:=infoR
 cases hq:prog.info? 21 with
 | none=>rw[hq]at h;simp at h
 | some i=>grind
theorem Fit.ins{xs c}(h:Fit .i32 xs)(I:-2147483648<=c/\c<=2147483647) p:Fit .i32 (Pu.ins xs p c):=by
 intro z hz;unfold Pu.ins at hz;rcases List.mem_append.1 hz with hz|hz
 ·exact h z (List.mem_of_mem_take hz)
 ·rcases List.mem_cons.1 hz with hz|hz
  ·subst hz;exact x0T I
  ·exact h z (List.mem_of_mem_drop hz)
theorem x2C xs p c:(Pu.ins xs p c).length=xs.length+1:=by unfold Pu.ins;exact P8P
theorem y8L xs p c:(Pu.ins xs p c).map (Value.int .i32)=(xs.map (Value.int .i32)).take p++.int .i32 c::(xs.map (Value.int .i32)).drop p:=by unfold Pu.ins;exact M7K
theorem z5O xs c:Pu.ins xs xs.length c=xs++[c]:=by unfold Pu.ins;exact M7K
theorem y5v B v xs c w g(N:Ok .i32 21 w B v xs)(U:xs.length<=1000000)(T:B<=w.heap.size)
  (C:w.heap[g]?=some (.cells #[.int .i32 c] 21 (0,0))) (I:-2147483648<=c/\c<=2147483647) :
  Calls prog 203 #[v,.int .i64 xs.length,.slice (some ⟨g,0,none⟩) 1 1] w (x3M B v w (Pu.ins xs xs.length c)):=by
 obtain⟨i,hi,f,p,t⟩:=x3R;have L:=N.row
 have y:∀j u,[Value.int .i32 c][j]?=some u->w.cell? ((⟨g,0,none⟩:Addr).add j)=some u:=by
  intro j u K;have:j=0:=(by grind);subst this;simp at K;rw[addr_add,<- K];simp[World.cell?,C]
 have r:Hid (∀S J l,l.ownsRow B 21 1 (.slice (some ⟨S,0,none⟩) (xs.length+1) J) (xs.length+1) (xs.map (Value.int .i32)++[.int .i32 c])->w.grownBy l v.ownBlock->(v.ownBlock=some S\/S=w.heap.size) ->
   x3M B v w (Pu.ins xs xs.length c) (.returned (.slice (some ⟨S,0,none⟩) (xs.length+1) J)) l):=by
  intro S J l Z D h3;refine⟨_,rfl,Ok.of (N.1.ins I _) G6e Z (by rw[x2C]) (by rw[z5O];exact M7M),D,fun k G=>?_⟩;have:k=S:=U8V;subst this;rcases h3 with h3|h3
  ·exact .inl h3
  ·exact .inr f6J
 obtain⟨R,M,E,A,F⟩:=N.sk.shape;generalize xs.length=n at *;have s:=O L;rw[E];rw[E]at L r;rcases Nat.lt_or_ge n M with Q|hge
 ·exact R0C
 ·have d:M=n:=f6J;subst d;exact R0C
theorem y2D w g b o lb cb(F:g≠b) c e(C:w.heap[g]?=some (.cells #[.int .i32 c] 21 (0,0))) cur(Y:w.heap[b]?=some (.cells cur e (0,0)))(G:cur.size≠0) :
  (callFunc 252 #[.slice (some ⟨g,0,none⟩) 1 1,.slice (some ⟨b,o,none⟩) lb cb]).run prog w=.ok (.value (.bool false)) w:=by
 rw[run_callFunc_extern func252 f4x f4x f4x (e:=Extern.SlicesOverlaps.overlaps #[40,40] #[4]) f4x,
  Lib.run_overlaps_apart w 40 4 21 underlying40 1 (fun w=>f4x) ⟨g,0,none⟩ ⟨b,o,none⟩ 1 1 lb cb F 21 e 1 cur.size (by simp[World.shape?,C]) (by simp[World.shape?,Y]) G (by simp[World.frozen?,C]) (by simp[World.frozen?,C])]
 rfl
theorem y6o{us p u x rest}(L:p<us.length) :
  ((laid (laid (us++x::rest) (p+1) (us.drop p)) p [u]).take (us.length+1))=us.take p++u::us.drop p:=by
 have Z:laid (us++x::rest) (p+1) (us.drop p)=us.take p++[us.getD p undef]++us.drop p++rest:=by
  unfold laid
  have P:(us++x::rest).take (p+1)=us.take p++[us.getD p undef]:=by
   rw[List.take_append_of_le_length f6J];rw[List.take_add_one,List.getElem?_eq_getElem L,List.getD,List.getElem?_eq_getElem L];rfl
  have f:(us++x::rest).drop (p+1+(us.drop p).length)=rest:=by
   rw[List.length_drop,List.drop_append,List.drop_eq_nil_of_le f6J,(f6J:p+1+(us.length-p)-us.length=1)];rfl
  rw[P,f]
 rw[Z];unfold laid;have S:(us.take p).length=p:=(by grind);have P:(us.take p++[us.getD p undef]++us.drop p++rest).take p=us.take p:=by grind
 have f:(us.take p++[us.getD p undef]++us.drop p++rest).drop (p+[u].length)=us.drop p++rest:=by
  rw[List.append_assoc,List.drop_append,List.drop_eq_nil_of_le P8P];simp only[List.length_append,List.length_singleton,S,Nat.sub_self,List.drop_zero,List.nil_append]
 rw[P,f];rw[(M7M:us.take p++[u]++(us.drop p++rest)=(us.take p++u::us.drop p)++rest)];rw[List.take_append_of_le_length P8P,List.take_of_length_le P8P]
theorem x5o{us:List Value}(h:∀u∈us,u.oneCell'=true) p:∀u∈us.drop p,u.oneCell'=true:=fun u W=>h u (List.mem_of_mem_drop W)
theorem x3u:(prog.info? 21).map (·.size)=some 1:=by
 obtain⟨i,h,_,Z,_⟩:=x3R;rw[h];simp[Z]
theorem y0D b n cap p g cur us c w(L:p<n)(o:n+1<=cap)(ab:cap<=9223372036854775807)(F:g≠b)
  (Y:w.heap[b]?=some (.cells cur 21 (0,0))) (q:cur.size=cap) (a:cur.toList.take n=us) (Q:∀u∈us,u.oneCell'=true)
  (C:w.heap[g]?=some (.cells #[.int .i32 c] 21 (0,0))) :
  Calls prog 203 #[.slice (some ⟨b,0,none⟩) n cap,.int .i64 p,.slice (some ⟨g,0,none⟩) 1 1] w fun e w' =>
   e=.returned (.slice (some ⟨b,0,none⟩) (n+1) cap)/\w'=(w.drew.setCells b (p+1) (us.drop p)).setCells b p [.int .i32 c]:=by
 have i:us.length=n:=(by grind);have z:(us.drop p).length=n-p:=(by grind);have y:∀j,j<cap->(w.cell? ⟨b,j,none⟩).isSome=true:=fun j K=>(by simp[World.cell?,Y];exact f6J);have d:∀j,w.frozen? ⟨b,j,none⟩=false:=fun j=>by simp[World.frozen?,Y]
 have M:∀j u,us[j]?=some u->w.cell? ⟨b,j,none⟩=some u:=fun j u K=>M9r
 have I:∀lb P,(callFunc 252 #[.slice (some ⟨g,0,none⟩) 1 1,.slice (some ⟨b,p+1,none⟩) lb P]).run prog w=.ok (.value (.bool false)) w:=fun lb P=>y2D w g b (p+1) lb P F c 21 C cur Y f6J
 have r:∀B m T,(Builtin.copy_ #[40,40] B #[.slice (some ⟨b,p+1,none⟩) (n-p) m,.slice (some ⟨b,p,none⟩) (n+1-p) T]).run prog w.drew=.ok (goInt (us.drop p).length) (w.drew.setCells b (p+1) (us.drop p)):=fun B m T =>
  run_copy_cells w.drew _ _ B 21 b (p+1) (n-p) m ⟨b,p,none⟩ (n+1-p) T (us.drop p) underlying40 x3u (by rw[z];simp only[Nat.min_def];exact G7o)
   (fun j v K=>by rw[addr_add];exact M (p+j) v E0S)
   (fun j K=>y _ f6J) (fun j K=>d _) (x5o Q p)
 obtain⟨f,J⟩:∃f,f=w.drew.setCells b (p+1) (us.drop p):=⟨_,rfl⟩
 have U:∀k,k<cap->(f.cell? ⟨b,k,none⟩).isSome=true:=fun k G=>by
  obtain⟨H,Z,D⟩:=x1p b (us.drop p) (p+1) w.drew cur _ _ Y f6J
  have R:H.size=cap:=s0m
  rw[J];simp[World.cell?,Z];omega
 have A:∀(W:World),(∀x,W.cell? x=f.cell? x)->(∀x,W.frozen? x=f.frozen? x)->∀B m,(Builtin.copy_ #[40,40] B #[.slice (some ⟨b,p,none⟩) (n+1-p) m,.slice (some ⟨g,0,none⟩) 1 1]).run prog W=.ok (goInt 1) (W.setCells b p [.int .i32 c]):=fun W l S B m =>
  run_copy_cells W _ _ B 21 b p (n+1-p) m ⟨g,0,none⟩ 1 1 [.int .i32 c] underlying40 x3u (by simp only[Nat.min_def,List.length_singleton];exact G7o)
   (fun j v K=>by
    rw[addr_add,l,J,World.cell?_setCells_out b _ _ _ _ (fun h _=>absurd h F)];have:j=0:=N7z;subst this;simp at K;subst K;show w.cell? ⟨g,0+0,none⟩=_
    simp[World.cell?,C])
   (fun j K=>by rw[l];simp at K;subst K;exact U _ f6J) (fun j K=>by rw[S,J,World.frozen?_setCells];exact d _) (x0J .i32 c)
 rw[<- J]at r ⊢;have t:¬((p:Int)=(n:Int)):=f6J;have ae:¬(cap=p+1):=f6J;have N:¬(cap=p):=f6J;have mixed:prog.follows Departure.mixedOrders=true:=f4y;have ag:IntKind.i64.wrap ((p:Int)+1)=(p:Int)+1:=s7C;have E:(0:Int)<=(p:Int)+1:=f6J;have X:p<=n:=f6J;have af:((p:Int)+1).toNat=p+1:=f6J;have s:(p:Int)<=(n:Int)+1:=f6J;clear J U M d y i z a Q Y C q;go_enter func203,ntmps203;go_wp2_with(simp only[I]);go_region_law_o (refine x3K rfl _ _ 40 40 rfl _ _ m5s m5s (r _ _ _) ?_);go_wp2_with(at_builtin;refine wpList_copy_runQ _ rfl _ _ 40 40 rfl _ _ rfl rfl (A _ (fun _=>rfl) (fun _=>rfl) _ _) ?_);go_ret;exact⟨rfl,rfl⟩
theorem y8U a b vs o(h:a.length=o):laid (a++b) o vs=a++vs++b.drop vs.length:=by
 subst h;unfold laid;rw[List.take_left,List.drop_append,List.drop_eq_nil_of_le f6J,Nat.add_sub_cancel_left,List.nil_append]
theorem y8z{us:List Value}{p k u z}(L:p<us.length) :
  ((laid (laid (us.take p++List.replicate (us.length+1-p) z++List.replicate k z) p [u]) (p+1) (us.drop p)).take (us.length+1))=us.take p++u::us.drop p:=by
 have S:(us.take p).length=p:=(by grind);rw[List.append_assoc,y8U _ _ _ p S,y8U _ _ _ (p+1) P8P];rw[(M7M:us.take p++[u]++us.drop p=us.take p++u::us.drop p)];rw[List.take_append_of_le_length P8P,List.take_of_length_le P8P]
theorem y1G n:(Builtin.zeroCells (Value.int .i32 0).cells n).toList=List.replicate n (.int .i32 0):=by
 refine List.ext_getElem (by simp[Builtin.zeroCells,Value.cells]) fun i Z D=>?_;simp[Builtin.zeroCells,Value.cells,Nat.mod_one]
theorem y2t b n cap p g cur us c w(hp:p<n)(aH:n<=cap)(az:cap<n+1)(A:n<=1000000)
  (Y:w.heap[b]?=some (.cells cur 21 (0,0))) (q:cur.size=cap) (a:cur.toList.take n=us) (Q:∀u∈us,u.oneCell'=true)
  (hg:w.heap[g]?=some (.cells #[.int .i32 c] 21 (0,0))) :
  Calls prog 203 #[.slice (some ⟨b,0,none⟩) n cap,.int .i64 p,.slice (some ⟨g,0,none⟩) 1 1] w fun e w'=>∃(G:Nat) (P:Array Value),n+1<=G/\G<=maxLen/\P.size=G /\
   P.toList=us.take p++List.replicate (n+1-p) (.int .i32 0)++List.replicate (G-(n+1)) (.int .i32 0) /\
   e=.returned (.slice (some ⟨w.heap.size,0,none⟩) (n+1) G)/\w'=(((w.alloc (.cells P 21)).drew.setCells w.heap.size p [.int .i32 c]).drew).setCells w.heap.size (p+1) (us.drop p):=by
 obtain⟨i0,ay,aA,k,af⟩:=x3R;have aw:cap=n:=f6J;subst aw;have i:us.length=cap:=(by rw[<- a,List.length_take];exact P8P);have z:(us.drop p).length=cap-p:=by rw[List.length_drop,i]
 have M:∀j u,us[j]?=some u->w.cell? ⟨b,j,none⟩=some u:=fun j u K=>M9r
 have ar:b<w.heap.size:=(Array.getElem?_eq_some_iff.1 Y).1;have o:g<w.heap.size:=(Array.getElem?_eq_some_iff.1 hg).1;have N:(cap:Int)+1-(p:Int)=((cap+1-p:Nat):Int):=f6J;have ab:p+(cap+1-p)=cap+1:=f6J
 have hold:(Builtin.firstCells i0.size p (.slice (some ⟨b,0,none⟩) p cap)).run prog w.drew=.ok (us.take p).toArray w.drew:=by
  rw[k]
  exact run_firstCells_some w.drew 1 p ⟨b,0,none⟩ p cap (us.take p) U3u (fun j v K=>by
   rw[addr_add,Nat.zero_add];rw[List.getElem?_take]at K;split at K
   ·exact M j v K
   ·cases K)
 have F:∀ty,(Builtin.append_ #[40,3] ty #[.slice (some ⟨b,0,none⟩) p cap,.int .i64 ((cap:Int)+1-(p:Int))]).run prog w =
   .ok (.slice (some ⟨w.heap.size,0,none⟩) (cap+1) (grownCap w (cap+1) cap 21)) (w.drew.alloc (.cells ((us.take p).toArray++Builtin.zeroCells (Value.int .i32 0).cells (cap+1-p)++Builtin.zeroCells (Value.int .i32 0).cells (grownCap w (cap+1) cap 21-(cap+1))) 21)):=fun ty=>by
  have h:=Lib.run_append_grow_zeros w 40 3 ty 21 i0 _ .i64 .i64 underlying40 underlying3 ay aA (some ⟨b,0,none⟩) p cap (us.take p) hold (cap+1-p) f6J f6J f6J f6J (by rw[af];exact f6J) (by rw[af,ab];exact growslice_fits f6J f6J);rw[ab]at h;rw[N];exact h
 obtain⟨G,T⟩:∃G,G=grownCap w (cap+1) cap 21:=⟨_,rfl⟩;obtain⟨P,B⟩:∃P:Array Value,P=(us.take p).toArray++Builtin.zeroCells (Value.int .i32 0).cells (cap+1-p)++Builtin.zeroCells (Value.int .i32 0).cells (G-(cap+1)):=⟨_,rfl⟩;rw[<- T,<- B]at F;have am:cap+1<=G:=(by rw[T];exact grownCap_ge w _ _ _);have t:G<=maxLen:=(by rw[T];exact grownCap_le_maxLen w (cap+1) cap 21 T7X);have aB:G<=9223372036854775807:=v9z
 have U:P.toList=us.take p++List.replicate (cap+1-p) (.int .i32 0)++List.replicate (G-(cap+1)) (.int .i32 0):=by
  rw[B];rw[Array.toList_append,Array.toList_append,y1G,y1G]
 have y:P.size=G:=by
  have:=congrArg List.length U;simp at this;omega
 obtain⟨f,J⟩:∃f,f=w.drew.alloc (.cells P 21):=⟨_,rfl⟩;rw[<- J]at F
 have r:∀j,j<cap+1->(f.cell? ⟨w.heap.size,j,none⟩).isSome=true:=fun j K=>by
  rw[J,World.cell?_alloc_at (w:=w.drew) P _ w.heap.size j rfl,Array.getElem?_eq_getElem f6J];rfl
 have C:∀j,f.frozen? ⟨w.heap.size,j,none⟩=false:=fun j=>(by rw[J];exact World.frozen?_alloc_at (w:=w.drew) P _ w.heap.size j rfl);have D:∀j v,w.cell? ⟨b,j,none⟩=some v->f.cell? ⟨b,j,none⟩=some v:=fun j v h=>(by rw[J,World.cell?_alloc_past (w:=w.drew) _ b j ar];exact h);have E:f.cell? ⟨g,0,none⟩=some (.int .i32 c):=by rw[J,World.cell?_alloc_past (w:=w.drew) _ g 0 o];show w.cell? ⟨g,0,none⟩=_;simp[World.cell?,hg]
 have I:∀(W:World),(∀x,W.cell? x=f.cell? x)->(∀x,W.frozen? x=f.frozen? x)->∀ty m,(Builtin.copy_ #[40,40] ty #[.slice (some ⟨w.heap.size,p,none⟩) (cap+1-p) m,.slice (some ⟨g,0,none⟩) 1 1]).run prog W=.ok (goInt 1) (W.setCells w.heap.size p [.int .i32 c]):=fun W l S ty m =>
  run_copy_cells W _ _ ty 21 w.heap.size p (cap+1-p) m ⟨g,0,none⟩ 1 1 [.int .i32 c] underlying40 x3u (by simp only[Nat.min_def,List.length_singleton];split<;>omega)
   (fun j v K=>by
    have:j=0:=N7z;subst this;simp at K;subst K
    rw[addr_add,l];exact E)
   (fun j K=>by rw[l];simp at K;subst K;exact r _ f6J) (fun j K=>by rw[S];exact C _) (x0J .i32 c)
 have aq:b≠w.heap.size:=f6J
 have ae:∀(W:World),(∀x,W.cell? x=(f.setCells w.heap.size p [.int .i32 c]).cell? x)->(∀x,W.frozen? x=(f.setCells w.heap.size p [.int .i32 c]).frozen? x)->∀ty m sc,(Builtin.copy_ #[40,40] ty #[.slice (some ⟨w.heap.size,p+1,none⟩) (cap-p) m,.slice (some ⟨b,p,none⟩) (cap-p) sc]).run prog W=.ok (goInt (us.drop p).length) (W.setCells w.heap.size (p+1) (us.drop p)):=fun W l S ty m sc =>
  run_copy_cells W _ _ ty 21 w.heap.size (p+1) (cap-p) m ⟨b,p,none⟩ (cap-p) sc (us.drop p) underlying40 x3u (by rw[z];simp only[Nat.min_def];split<;>omega)
   (fun j v K=>by
    rw[addr_add,l,World.cell?_setCells_out _ _ _ _ _ (fun h _=>absurd h aq)]
    exact D _ v (M (p+j) v E0S))
   (fun j K=>by
    rw[l];obtain⟨H,Z,h2⟩:=x1p w.heap.size [.int .i32 c] p f P 21 (0,0) (by rw[J];exact heap_alloc_new w.drew _) P8P
    have h3:H.size=G:=by
     have:=congrArg List.length h2;simp[laid]at this;omega
    simp[World.cell?,Z];omega)
   (fun j K=>by rw[S,World.frozen?_setCells];exact C _) (x5o Q p)
 subst J;have ag:∀x,((w.alloc (.cells P 21)).drew).cell? x=(w.drew.alloc (.cells P 21)).cell? x:=fun x=>rfl;have L:∀x,((w.alloc (.cells P 21)).drew).frozen? x=(w.drew.alloc (.cells P 21)).frozen? x:=fun x=>rfl;have ai:∀x,(((w.alloc (.cells P 21)).drew.setCells w.heap.size p [.int .i32 c]).drew).cell? x=((w.drew.alloc (.cells P 21)).setCells w.heap.size p [.int .i32 c]).cell? x:=fun x=>rfl;have aj:∀x,(((w.alloc (.cells P 21)).drew.setCells w.heap.size p [.int .i32 c]).drew).frozen? x=((w.drew.alloc (.cells P 21)).setCells w.heap.size p [.int .i32 c]).frozen? x:=fun x=>rfl;have mixed:prog.follows Departure.mixedOrders=true:=f4A;have aK:¬((p:Int)=(cap:Int)):=f6J;have aJ:IntKind.i64.wrap ((p:Int)+1)=(p:Int)+1:=s7D;have aF:(0:Int)<=(p:Int)+1:=f6J;have X:p<=cap:=f6J;have aI:((p:Int)+1).toNat=p+1:=f6J;have s:(p:Int)<=(cap:Int):=f6J;have aD:¬(G=p):=f6J;have aC:¬(G=p+1):=f6J;have aG:¬(cap=p):=f6J
 have HP:Hid (∀(e:Ending) (w':World),e=.returned (.slice (some ⟨w.heap.size,0,none⟩) (cap+1) G)->w'=(((w.alloc (.cells P 21)).drew.setCells w.heap.size p [.int .i32 c]).drew).setCells w.heap.size (p+1) (us.drop p)->∃(G:Nat) (P:Array Value),cap+1<=G/\G<=maxLen/\P.size=G /\
   P.toList=us.take p++List.replicate (cap+1-p) (.int .i32 0)++List.replicate (G-(cap+1)) (.int .i32 0) /\
   e=.returned (.slice (some ⟨w.heap.size,0,none⟩) (cap+1) G)/\w'=(((w.alloc (.cells P 21)).drew.setCells w.heap.size p [.int .i32 c]).drew).setCells w.heap.size (p+1) (us.drop p)) :=
  fun e w' d hw=>⟨G,P,am,t,y,U,d,hw⟩
 clear N ab hold B T U y r C D E M i z a Q Y hg t;refine Calls.mono (R:=fun e w'=>e=.returned (.slice (some ⟨w.heap.size,0,none⟩) (cap+1) G)/\w'=(((w.alloc (.cells P 21)).drew.setCells w.heap.size p [.int .i32 c]).drew).setCells w.heap.size (p+1) (us.drop p)) ?_ (fun e w' h=>V HP e w' h.1 h.2);go_enter func203,ntmps203
 go_wp2_with(first
  | (at_builtin;refine Lib.wpList_append_run _ rfl _ _ _ _ rfl _ _ rfl rfl _ _ (F _) ?_)
  | (at_builtin;refine wpList_copy_runQ _ rfl _ _ 40 40 rfl _ _ rfl rfl (I _ ag L _ _) ?_))
 go_region_law_o (refine x3K rfl _ _ 40 40 rfl (.slice (some ⟨w.heap.size,p+1,none⟩) (cap-p) (G-(p+1))) (.slice (some ⟨b,p,none⟩) (cap-p) (cap-p)) m5s m5s (ae _ ai aj 3 (G-(p+1)) (cap-p)) ?_);go_wp2;go_ret;exact⟨rfl,rfl⟩
theorem y5u B v xs p c w g(N:Ok .i32 21 w B v xs)(hp:p<=xs.length)(S:xs.length<=1000000)(l:B<=w.heap.size)
  (C:w.heap[g]?=some (.cells #[.int .i32 c] 21 (0,0))) (F:v.ownBlock≠some g) (I:-2147483648<=c/\c<=2147483647) :
  Calls prog 203 #[v,.int .i64 p,.slice (some ⟨g,0,none⟩) 1 1] w (x3M B v w (Pu.ins xs p c)):=by
 rcases Nat.lt_or_ge p xs.length with H|hge
 ·have L:=N.row;rcases L.2 with⟨_,A⟩|⟨b,M,T,E,hb,a,hn,t,q,Q⟩
  ·omega
  ·have m:∀u∈xs.map (Value.int .i32),u.oneCell'=true:=x0S .i32 xs;rw[Nat.mul_one]at q Q;subst E;have W:g≠b:=fun h=>F (by rw[h];rfl);have s:(xs.map (Value.int .i32)).length=xs.length:=M7M;rcases Nat.lt_or_ge xs.length M with hr|hr
   ·refine(y0D b xs.length M p g T (xs.map (Value.int .i32)) c w H f6J v9z W a q Q m C).mono ?_;rintro e w' ⟨rfl,rfl⟩;obtain⟨j,Z,D⟩:=x1p b ((xs.map (Value.int .i32)).drop p) (p+1) w.drew T 21 (0,0) a P8P
    have ab:j.size=M:=s0m
    obtain⟨K,R,o⟩:=x1p b [.int .i32 c] p _ j 21 (0,0) Z P8P
    have i:K.size=M:=N6K
    refine⟨_,rfl,Ok.of (N.1.ins I p) G6e (n:=xs.length+1) (us:=(Pu.ins xs p c).map (Value.int .i32)) ⟨by simp[x2C],.inr ⟨b,M,K,rfl,hb,R,f6J,t,f6J,?_⟩⟩ (by rw[x2C]) rfl,?_,?_⟩
    ·rw[Nat.mul_one,o,D,y8L]
     obtain⟨x,rest,J⟩:∃x rest,T.toList=xs.map (Value.int .i32)++x::rest:=by
      have hd:T.toList=T.toList.take xs.length++T.toList.drop xs.length:=(List.take_append_drop _ _).symm;rw[Q]at hd
      cases hq:T.toList.drop xs.length with
      | nil=>grind
      | cons x rest=>exact⟨x,rest,by rw[hd,hq]⟩
     rw[J];have:=y6o (us:=xs.map (Value.int .i32)) (p:=p) (u:=.int .i32 c) (x:=x) (rest:=rest) (by simpa using H);rw[s]at this;exact this
    ·exact x8e (x8e (x1N (x1O w _)) _ _) _ _
    ·intro k r;exact .inl r
   ·refine(y2t b xs.length M p g T (xs.map (Value.int .i32)) c w H hn f6J S a q Q m C).mono ?_;rintro e w' ⟨G,P,f,X,y,U,rfl,rfl⟩;have Y:((w.alloc (.cells P 21)).drew).heap[w.heap.size]?=some (.cells P 21 (0,0)):=heap_alloc_new w _;obtain⟨j,Z,D⟩:=x1p w.heap.size [.int .i32 c] p (w.alloc (.cells P 21)).drew P 21 (0,0) Y P8P
    have ab:j.size=G:=s0m
    obtain⟨K,R,o⟩:=x1p w.heap.size ((xs.map (Value.int .i32)).drop p) (p+1) (((w.alloc (.cells P 21)).drew.setCells w.heap.size p [.int .i32 c]).drew) j 21 (0,0) Z P8P
    have i:K.size=G:=N6K
    refine⟨_,rfl,Ok.of (N.1.ins I p) G6e (n:=xs.length+1) (us:=(Pu.ins xs p c).map (Value.int .i32)) ⟨by simp[x2C],.inr ⟨w.heap.size,G,K,rfl,l,R,f6J,X,f6J,?_⟩⟩ (by rw[x2C]) rfl,?_,?_⟩
    ·rw[Nat.mul_one,o,D,U,y8L];have:=y8z (us:=xs.map (Value.int .i32)) (p:=p) (k:=G-(xs.length+1)) (u:=.int .i32 c) (z:=.int .i32 0) (by simpa using H);rw[s]at this;exact this
    ·exact x3D (x1N (x3D (x1N (x3Q (x1O w _) _)) (l0r _) _ _)) (l0r _) _ _
    ·intro k r;have:k=w.heap.size:=(by simpa[Value.ownBlock]using r.symm);exact .inr f6J
 ·have d:p=xs.length:=f6J;subst d;exact y5v B v xs c w g N S l C I
namespace Pu
theorem y9S bias zs k v w:(rdN bias zs k v w).1=0->(rdN bias zs k v w).2.2.length<zs.length:=by
 induction zs generalizing k v w with
 | nil=>intro h;simp[rdN]at h
 | cons z r ih =>
  intro h;rw[rdN]at h ⊢;split
  ·grind
  ·grind
theorem x8r f g zs(s:St)(X:zs.length<=f)(C:zs.length<=g):x4Y f zs s=x4Y g zs s:=by
 induction f generalizing g zs s with
 | zero =>
  have A:zs=[]:=List.eq_nil_of_length_eq_zero f6J;subst A
  cases g with
  | zero=>rfl
  | succ g=>rfl
 | succ f ih =>
  cases g with
  | zero=>grind
  | succ g =>
   rw[x4Y,x4Y];by_cases A:zs=[]
   ·rw[if_pos A,if_pos A]
   ·rw[if_neg A,if_neg A];by_cases Z:(rdN s.bias zs 1 0 1).1≠0
    ·rw[if_pos Z,if_pos Z]
    ·rw[if_neg Z,if_neg Z];have S:=y9S s.bias zs 1 0 1 E1z;rw[ih g _ _ f6J f6J]
def rdW(zs:List Int)(s:St):List Int×Int:=x4Y zs.length zs s
def after(s:St)(q:Int×Int×List Int):List Int×Int :=
 if q.1≠0 then([],q.1)else if 2147483647<q.2.1 then([],113)else if ¬Utf.okc (stepN s q.2.1)then([],31)else rdW q.2.2 (step s q.2.1)
theorem y9T(s:St):rdW [] s=(s.xs,0):=rfl
theorem y9U{zs}(h:zs≠[])(s:St):rdW zs s=after s (rdN s.bias zs 1 0 1):=by
 unfold rdW after
 cases hl:zs.length with
 | zero=>grind
 | succ f =>
  rw[x4Y,if_neg h];by_cases Z:(rdN s.bias zs 1 0 1).1≠0
  ·rw[if_pos Z,if_pos Z]
  ·rw[if_neg Z,if_neg Z];have d:=y9S s.bias zs 1 0 1 E1z;by_cases D:2147483647<(rdN s.bias zs 1 0 1).2.1
   ·rw[if_pos D,if_pos D]
   ·rw[if_neg D,if_neg D];by_cases R:¬Utf.okc (stepN s (rdN s.bias zs 1 0 1).2.1)
    ·rw[if_pos R,if_pos R]
    ·rw[if_neg R,if_neg R];exact x8r _ _ _ _ f6J (l0r _)
theorem y7K zs:decode zs=if 65536<zs.length then([],2)else if basicB zs=false then([],111)else rdW (tail zs) (begin (zs.take (x4Q zs 0 0))):=by
 unfold decode;split
 ·rfl
 ·split
  ·rfl
  ·refine x8r _ _ _ _ ?_ (l0r _);unfold tail;split
   ·exact l0r _
   ·rw[List.length_drop];omega
theorem x4c{s:St}{e v r}(h:e≠0):after s (e,v,r)=([],e):=by unfold after;rw[if_pos h]
theorem y4C{s:St}{v r}(h:2147483647<v):after s (0,v,r)=([],113):=by unfold after;rw[if_neg M7K,if_pos h]
theorem x9Y{s:St}{v r}(h:¬2147483647<v)(D:¬Utf.okc (stepN s v)):after s (0,v,r)=([],31):=by unfold after;rw[if_neg M7K,if_neg h,if_pos D]
theorem z1h{s:St}{v r}(h:¬2147483647<v)(D:Utf.okc (stepN s v)):after s (0,v,r)=rdW r (step s v):=by unfold after;rw[if_neg M7K,if_neg h,if_neg (not_not_intro D)]
theorem z6A bias k v w:rdN bias [] k v w=(112,0,[]):=rfl
theorem y2K{bias z k v w r}(h:dig z<0):rdN bias (z::r) k v w=(110,0,[]):=by rw[rdN,if_pos h]
theorem x9A{bias z k v w r}(h:¬dig z<0)(D:dig z<thr k bias):rdN bias (z::r) k v w=(0,v+dig z*w,r):=by rw[rdN,if_neg h,if_pos D]
theorem x9B{bias z k v w r}(h:¬dig z<0)(D:¬dig z<thr k bias):rdN bias (z::r) k v w =
  rdN bias r (k+1) (v+dig z*w) (if 2147483648<w*(36-thr k bias)then 2147483648 else w*(36-thr k bias)):=by rw[rdN,if_neg h,if_neg D]
end Pu
