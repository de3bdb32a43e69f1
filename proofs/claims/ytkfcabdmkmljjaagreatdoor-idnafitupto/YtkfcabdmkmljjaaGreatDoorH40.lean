/- Lemmas. -/
import Derived.Test.YtkfcabdmkmljjaaGreatDoorH39
import Derived.WalkKit
import Derived.Lib.Walk
import Derived.Lib.SliceRun
import Derived.Lib.AppendZerosOnto
import Derived.Lib.Overlaps
import Derived.Laws.Externs
import Derived.Deep.AppendLies
import Derived.Shelf.RegionOpenPlain
set_option maxHeartbeats 4000000
set_option maxRecDepth 100000
namespace Go.Proofs.YtkfcabdmkmljjaaGreatDoor
open Go.Proofs.Tryz
open Go.RowKit
section
variable{p:Prop}
theorem t5G(h:p:=by go_enter func63,ntmps63;go_wp2_with(at_builtin;refine wpList_append_lies _ rfl (.tmp 23) (.tmp 24) 36 rfl B 21 r (.int .i32 0) 1 4 underlying36 hi d Y R rfl e8N _ _ _ rfl J ⟨g,0,none⟩ 1 1 [.int .i32 c] rfl rfl K (x1k .i32 _) f6J T7X f6J f6J w.heap.size rfl ?_);intro S A a Z D h3 H;have W:=O (V L S A a Z D h3);go_wp2;go_ret;exact V W):p:=h
theorem s0m(h:p:=by have:=congrArg List.length D;simp[laid]at this;omega):p:=h
theorem m5r(h:p:=by simp[Act.eval,Act.put]):p:=h
theorem W9w(h:p:=by rw[x2n];exact f6J):p:=h
theorem U8V(h:p:=by simpa[Value.ownBlock]using G.symm):p:=h
theorem u1H(h:p:=by
 rw[<- S,List.getElem?_take]at X;split at X
 ·simp[World.cell?,Y];simpa using X
 ·cases X):p:=h
theorem t8i(h:p:=by have:=congrArg List.length H;simp[laid]at this;omega):p:=h
theorem f2Q(h:p:=by simp only[Nat.min_def,List.length_singleton];split<;>omega):p:=h
theorem i3N(h:p:=by rw[N];simp only[Nat.min_def];split<;>omega):p:=h
theorem W4v(h:p:=by simpa using(List.getElem?_eq_some_iff.1 X).1):p:=h
theorem U3z(h:p:=by rw[List.length_take];exact f6J):p:=h
theorem P2S(h:p:=by rwa [List.getElem?_drop]at X):p:=h
end
def x3y(B:Nat)(v:Value)(w:World)(xs:List Int)(e:Ending)(w':World):Prop :=
 ∃v',e=.returned v'/\Ok .i32 21 w' B v' xs/\w.grownBy w' v.ownBlock/\∀g,v'.ownBlock=some g->v.ownBlock=some g\/w.heap.size<=g
theorem x3w{P ops o a}{w}{K:Act->World->Prop}{Q}{E:Prop}
  (C:o.guard=none) (d x:Operand) dT sT (n:o.op=Op.call { callee:=Callee.builtin Builtin.copy,args:=#[d,x],argTypes:=#[dT,sT] })
  v u (hd:a.eval d=v) (A:a.eval x=u) {v' w'} (hr:(Builtin.copy_ #[dT,sT] o.type #[v,u]).run P w=.ok v' w') (hK:K (a.put o.dst v') w') :
  if Region.wanted o (yielded ops a.tmps)=true then Oper.wp P o a w K Q else E:=by
 have m:Region.wanted o (yielded ops a.tmps)=true:=(by simp[Region.wanted,C]);rw[if_pos m];unfold Oper.wp;simp[execOp,n,resolve,invoke,builtin,hd,A,hr,Result.andThen];exact hK
theorem infoR:(prog.info? 21).map (fun i=>(i.zero,i.size,i.bytes))=some (some (.int .i32 0),1,4):=f4x
theorem x3E:∃i,prog.info? 21=some i/\i.zero=some (.int .i32 0)/\i.size=1/\i.bytes=4:=by
 have h:=infoR
 cases hq:prog.info? 21 with
 | none=>rw[hq]at h;simp at h
 | some i=>grind
theorem Fit.ins{xs c}(h:Fit .i32 xs)(I:-2147483648<=c/\c<=2147483647) p:Fit .i32 (Pu.ins xs p c):=by
 intro z hz;unfold Pu.ins at hz;rcases List.mem_append.1 hz with hz | hz
 ·exact h z (List.mem_of_mem_take hz)
 ·rcases List.mem_cons.1 hz with hz | hz
  ·subst hz;exact x1j I
  ·exact h z (List.mem_of_mem_drop hz)
theorem x2n xs p c:(Pu.ins xs p c).length=xs.length+1:=by unfold Pu.ins;exact P8P
theorem y9r xs p c:(Pu.ins xs p c).map (Value.int .i32)=(xs.map (Value.int .i32)).take p++.int .i32 c::(xs.map (Value.int .i32)).drop p:=by unfold Pu.ins;exact M7K
theorem z7a xs c:Pu.ins xs xs.length c=xs++[c]:=by unfold Pu.ins;exact M7K
theorem y5R B v xs c w g(N:Ok .i32 21 w B v xs)(b:xs.length<=1000000)(m:B<=w.heap.size)
  (C:w.heap[g]?=some (.cells #[.int .i32 c] 21 (0,0))) (I:-2147483648<=c/\c<=2147483647) :
  Calls prog 63 #[v,.int .i64 xs.length,.slice (some ⟨g,0,none⟩) 1 1] w (x3y B v w (Pu.ins xs xs.length c)):=by
 obtain⟨r,hi,d,Y,R⟩:=x3E;have J:=N.row
 have K:∀j u,[Value.int .i32 c][j]?=some u->w.cell? ((⟨g,0,none⟩:Addr).add j)=some u:=by
  intro j u X;have:j=0:=(by grind);subst this;simp at X;rw[addr_add,<- X];simp[World.cell?,C]
 have L:Hid (∀S A a,a.ownsRow B 21 1 (.slice (some ⟨S,0,none⟩) (xs.length+1) A) (xs.length+1) (xs.map (Value.int .i32)++[.int .i32 c])->w.grownBy a v.ownBlock->(v.ownBlock=some S\/S=w.heap.size) ->
   x3y B v w (Pu.ins xs xs.length c) (.returned (.slice (some ⟨S,0,none⟩) (xs.length+1) A)) a):=by
  intro S A a Z D h3;refine⟨_,rfl,Ok.of (N.1.ins I _) W9w Z (by rw[x2n]) (by rw[z7a];exact M7N),D,fun k G=>?_⟩;have:k=S:=U8V;subst this;rcases h3 with h3 | h3
  ·exact .inl h3
  ·exact e5w
 obtain⟨U,M,T,F,P⟩:=N.sk.shape;generalize xs.length=n at *;have s:=O J;rw[T];rw[T]at J L;rcases Nat.lt_or_ge n M with E | hge
 ·exact t5G
 ·have q:M=n:=f6J;subst q;exact t5G
theorem y2U w g b o lb cb(t:g≠b) c e(C:w.heap[g]?=some (.cells #[.int .i32 c] 21 (0,0))) cur(Y:w.heap[b]?=some (.cells cur e (0,0)))(G:cur.size≠0) :
  (callFunc 109 #[.slice (some ⟨g,0,none⟩) 1 1,.slice (some ⟨b,o,none⟩) lb cb]).run prog w=.ok (.value (.bool false)) w:=by
 rw[run_callFunc_extern func109 f4x f4x f4x (e:=Extern.SlicesOverlaps.overlaps #[36,36] #[4]) f4x,
  Lib.run_overlaps_apart w 36 4 21 underlying36 1 (fun w=>f4x) ⟨g,0,none⟩ ⟨b,o,none⟩ 1 1 lb cb t 21 e 1 cur.size (by simp[World.shape?,C]) (by simp[World.shape?,Y]) G (by simp[World.frozen?,C]) (by simp[World.frozen?,C])]
 rfl
theorem y6M{us p u x rest}(s:p<us.length) :
  ((laid (laid (us++x::rest) (p+1) (us.drop p)) p [u]).take (us.length+1))=us.take p++u::us.drop p:=by
 have Z:laid (us++x::rest) (p+1) (us.drop p)=us.take p++[us.getD p undef]++us.drop p++rest:=by
  unfold laid
  have P:(us++x::rest).take (p+1)=us.take p++[us.getD p undef]:=by
   rw[List.take_append_of_le_length f6J];rw[List.take_add_one,List.getElem?_eq_getElem s,List.getD,List.getElem?_eq_getElem s];rfl
  have E:(us++x::rest).drop (p+1+(us.drop p).length)=rest:=by
   rw[List.length_drop,List.drop_append,List.drop_eq_nil_of_le f6J,(f6J:p+1+(us.length-p)-us.length=1)];rfl
  rw[P,E]
 rw[Z];unfold laid;have S:(us.take p).length=p:=(by grind);have P:(us.take p++[us.getD p undef]++us.drop p++rest).take p=us.take p:=by grind
 have E:(us.take p++[us.getD p undef]++us.drop p++rest).drop (p+[u].length)=us.drop p++rest:=by
  rw[List.append_assoc,List.drop_append,List.drop_eq_nil_of_le P8P];simp only[List.length_append,List.length_singleton,S,Nat.sub_self,List.drop_zero,List.nil_append]
 rw[P,E];rw[(M7M:us.take p++[u]++(us.drop p++rest)=(us.take p++u::us.drop p)++rest)];rw[List.take_append_of_le_length P8P,List.take_of_length_le P8P]
theorem x5u{us:List Value}(h:∀u∈us,u.oneCell'=true) p:∀u∈us.drop p,u.oneCell'=true:=fun u W=>h u (List.mem_of_mem_drop W)
theorem x3d:(prog.info? 21).map (·.size)=some 1:=by
 obtain⟨i,h,_,Z,_⟩:=x3E;rw[h];simp[Z]
theorem y0X b n cap p g cur us c w(s:p<n)(y:n+1<=cap)(ab:cap<=9223372036854775807)(t:g≠b)
  (Y:w.heap[b]?=some (.cells cur 21 (0,0))) (f:cur.size=cap) (S:cur.toList.take n=us) (l:∀u∈us,u.oneCell'=true)
  (C:w.heap[g]?=some (.cells #[.int .i32 c] 21 (0,0))) :
  Calls prog 63 #[.slice (some ⟨b,0,none⟩) n cap,.int .i64 p,.slice (some ⟨g,0,none⟩) 1 1] w fun e w' =>
   e=.returned (.slice (some ⟨b,0,none⟩) (n+1) cap)/\w'=(w.drew.setCells b (p+1) (us.drop p)).setCells b p [.int .i32 c]:=by
 have Q:us.length=n:=(by grind);have N:(us.drop p).length=n-p:=(by grind);have K:∀j,j<cap->(w.cell? ⟨b,j,none⟩).isSome=true:=fun j X=>(by simp[World.cell?,Y];exact f6J);have E:∀j,w.frozen? ⟨b,j,none⟩=false:=fun j=>by simp[World.frozen?,Y]
 have M:∀j u,us[j]?=some u->w.cell? ⟨b,j,none⟩=some u:=fun j u X=>u1H
 have P:∀lb Z,(callFunc 109 #[.slice (some ⟨g,0,none⟩) 1 1,.slice (some ⟨b,p+1,none⟩) lb Z]).run prog w=.ok (.value (.bool false)) w:=fun lb Z=>y2U w g b (p+1) lb Z t c 21 C cur Y f6J
 have r:∀B i q,(Builtin.copy_ #[36,36] B #[.slice (some ⟨b,p+1,none⟩) (n-p) i,.slice (some ⟨b,p,none⟩) (n+1-p) q]).run prog w.drew=.ok (goInt (us.drop p).length) (w.drew.setCells b (p+1) (us.drop p)):=fun B i q =>
  run_copy_cells w.drew _ _ B 21 b (p+1) (n-p) i ⟨b,p,none⟩ (n+1-p) q (us.drop p) underlying36 x3d i3N
   (fun j v X=>by rw[addr_add];exact M (p+j) v P2S)
   (fun j X=>K _ f6J) (fun j X=>E _) (x5u l p)
 obtain⟨d,z⟩:∃d,d=w.drew.setCells b (p+1) (us.drop p):=⟨_,rfl⟩
 have m:∀k,k<cap->(d.cell? ⟨b,k,none⟩).isSome=true:=fun k G=>by
  obtain⟨J,h1,D⟩:=x1l b (us.drop p) (p+1) w.drew cur _ _ Y f6J
  have h3:J.size=cap:=s0m
  rw[z];simp[World.cell?,h1];omega
 have A:∀(W:World),(∀x,W.cell? x=d.cell? x)->(∀x,W.frozen? x=d.frozen? x)->∀B i,(Builtin.copy_ #[36,36] B #[.slice (some ⟨b,p,none⟩) (n+1-p) i,.slice (some ⟨g,0,none⟩) 1 1]).run prog W=.ok (goInt 1) (W.setCells b p [.int .i32 c]):=fun W U I B i =>
  run_copy_cells W _ _ B 21 b p (n+1-p) i ⟨g,0,none⟩ 1 1 [.int .i32 c] underlying36 x3d f2Q
   (fun j v X=>by
    rw[addr_add,U,z,World.cell?_setCells_out b _ _ _ _ (fun h _=>absurd h t)];have:j=0:=W4v;subst this;simp at X;subst X;show w.cell? ⟨g,0+0,none⟩=_
    simp[World.cell?,C])
   (fun j X=>by rw[U];simp at X;subst X;exact m _ f6J) (fun j X=>by rw[I,z,World.frozen?_setCells];exact E _) (x1k .i32 c)
 rw[<- z]at r ⊢;have R:¬((p:Int)=(n:Int)):=f6J;have H:¬(cap=p+1):=f6J;have a:¬(cap=p):=f6J;have mixed:prog.follows Departure.mixedOrders=true:=f4y;have T:IntKind.i64.wrap ((p:Int)+1)=(p:Int)+1:=s7C;have F:(0:Int)<=(p:Int)+1:=f6J;have o:p<=n:=f6J;have ae:((p:Int)+1).toNat=p+1:=f6J;have L:(p:Int)<=(n:Int)+1:=f6J;clear z m M E K Q N S l Y C f;go_enter func63,ntmps63;go_wp2_with(simp only[P]);go_region_law_o (refine x3w rfl _ _ 36 36 rfl _ _ m5r m5r (r _ _ _) ?_);go_wp2_with(at_builtin;refine wpList_copy_runQ _ rfl _ _ 36 36 rfl _ _ rfl rfl (A _ (fun _=>rfl) (fun _=>rfl) _ _) ?_);go_ret;exact⟨rfl,rfl⟩
theorem y9B a b vs o(h:a.length=o):laid (a++b) o vs=a++vs++b.drop vs.length:=by
 subst h;unfold laid;rw[List.take_left,List.drop_append,List.drop_eq_nil_of_le f6J,Nat.add_sub_cancel_left,List.nil_append]
theorem y9e{us:List Value}{p k u z}(s:p<us.length) :
  ((laid (laid (us.take p++List.replicate (us.length+1-p) z++List.replicate k z) p [u]) (p+1) (us.drop p)).take (us.length+1))=us.take p++u::us.drop p:=by
 have S:(us.take p).length=p:=(by grind);rw[List.append_assoc,y9B _ _ _ p S,y9B _ _ _ (p+1) P8P];rw[(M7M:us.take p++[u]++us.drop p=us.take p++u::us.drop p)];rw[List.take_append_of_le_length P8P,List.take_of_length_le P8P]
theorem y1X n:(Builtin.zeroCells (Value.int .i32 0).cells n).toList=List.replicate n (.int .i32 0):=by
 refine List.ext_getElem (by simp[Builtin.zeroCells,Value.cells]) fun i Z D=>?_;simp[Builtin.zeroCells,Value.cells,Nat.mod_one]
theorem y2I b n cap p g cur us c w(hp:p<n)(aK:n<=cap)(aA:cap<n+1)(aF:n<=1000000)
  (Y:w.heap[b]?=some (.cells cur 21 (0,0))) (f:cur.size=cap) (S:cur.toList.take n=us) (l:∀u∈us,u.oneCell'=true)
  (C:w.heap[g]?=some (.cells #[.int .i32 c] 21 (0,0))) :
  Calls prog 63 #[.slice (some ⟨b,0,none⟩) n cap,.int .i64 p,.slice (some ⟨g,0,none⟩) 1 1] w fun e w'=>∃(G:Nat) (K:Array Value),n+1<=G/\G<=maxLen/\K.size=G /\
   K.toList=us.take p++List.replicate (n+1-p) (.int .i32 0)++List.replicate (G-(n+1)) (.int .i32 0) /\
   e=.returned (.slice (some ⟨w.heap.size,0,none⟩) (n+1) G)/\w'=(((w.alloc (.cells K 21)).drew.setCells w.heap.size p [.int .i32 c]).drew).setCells w.heap.size (p+1) (us.drop p):=by
 obtain⟨i0,az,aB,aC,t⟩:=x3E;have ar:cap=n:=f6J;subst ar;have Q:us.length=cap:=(by rw[<- S,List.length_take];exact P8P);have N:(us.drop p).length=cap-p:=by rw[List.length_drop,Q]
 have M:∀j u,us[j]?=some u->w.cell? ⟨b,j,none⟩=some u:=fun j u X=>u1H
 have aq:b<w.heap.size:=(Array.getElem?_eq_some_iff.1 Y).1;have aw:g<w.heap.size:=(Array.getElem?_eq_some_iff.1 C).1;have k:(cap:Int)+1-(p:Int)=((cap+1-p:Nat):Int):=f6J;have ae:p+(cap+1-p)=cap+1:=f6J
 have hold:(Builtin.firstCells i0.size p (.slice (some ⟨b,0,none⟩) p cap)).run prog w.drew=.ok (us.take p).toArray w.drew:=by
  rw[aC]
  exact run_firstCells_some w.drew 1 p ⟨b,0,none⟩ p cap (us.take p) U3z (fun j v X=>by
   rw[addr_add,Nat.zero_add];rw[List.getElem?_take]at X;split at X
   ·exact M j v X
   ·cases X)
 have af:∀B,(Builtin.append_ #[36,3] B #[.slice (some ⟨b,0,none⟩) p cap,.int .i64 ((cap:Int)+1-(p:Int))]).run prog w =
   .ok (.slice (some ⟨w.heap.size,0,none⟩) (cap+1) (grownCap w (cap+1) cap 21)) (w.drew.alloc (.cells ((us.take p).toArray++Builtin.zeroCells (Value.int .i32 0).cells (cap+1-p)++Builtin.zeroCells (Value.int .i32 0).cells (grownCap w (cap+1) cap 21-(cap+1))) 21)):=fun B=>by
  have h:=Lib.run_append_grow_zeros w 36 3 B 21 i0 _ .i64 .i64 underlying36 underlying3 az aB (some ⟨b,0,none⟩) p cap (us.take p) hold (cap+1-p) f6J f6J f6J f6J (by rw[t];exact f6J) (by rw[t,ae];exact growslice_fits f6J f6J);rw[ae]at h;rw[k];exact h
 obtain⟨G,D⟩:∃G,G=grownCap w (cap+1) cap 21:=⟨_,rfl⟩;obtain⟨K,A⟩:∃K:Array Value,K=(us.take p).toArray++Builtin.zeroCells (Value.int .i32 0).cells (cap+1-p)++Builtin.zeroCells (Value.int .i32 0).cells (G-(cap+1)):=⟨_,rfl⟩;rw[<- D,<- A]at af;have aj:cap+1<=G:=(by rw[D];exact grownCap_ge w _ _ _);have m:G<=maxLen:=(by rw[D];exact grownCap_le_maxLen w (cap+1) cap 21 T7X);have T:G<=9223372036854775807:=by unfold maxLen at m;exact f6J
 have P:K.toList=us.take p++List.replicate (cap+1-p) (.int .i32 0)++List.replicate (G-(cap+1)) (.int .i32 0):=by
  rw[A];rw[Array.toList_append,Array.toList_append,y1X,y1X]
 have L:K.size=G:=by
  have:=congrArg List.length P;simp at this;omega
 obtain⟨d,z⟩:∃d,d=w.drew.alloc (.cells K 21):=⟨_,rfl⟩;rw[<- z]at af
 have r:∀j,j<cap+1->(d.cell? ⟨w.heap.size,j,none⟩).isSome=true:=fun j X=>by
  rw[z,World.cell?_alloc_at (w:=w.drew) K _ w.heap.size j rfl,Array.getElem?_eq_getElem f6J];rfl
 have ab:∀j,d.frozen? ⟨w.heap.size,j,none⟩=false:=fun j=>(by rw[z];exact World.frozen?_alloc_at (w:=w.drew) K _ w.heap.size j rfl);have E:∀j v,w.cell? ⟨b,j,none⟩=some v->d.cell? ⟨b,j,none⟩=some v:=fun j v h=>(by rw[z,World.cell?_alloc_past (w:=w.drew) _ b j aq];exact h);have F:d.cell? ⟨g,0,none⟩=some (.int .i32 c):=by rw[z,World.cell?_alloc_past (w:=w.drew) _ g 0 aw];show w.cell? ⟨g,0,none⟩=_;simp[World.cell?,C]
 have ag:∀(W:World),(∀x,W.cell? x=d.cell? x)->(∀x,W.frozen? x=d.frozen? x)->∀B i,(Builtin.copy_ #[36,36] B #[.slice (some ⟨w.heap.size,p,none⟩) (cap+1-p) i,.slice (some ⟨g,0,none⟩) 1 1]).run prog W=.ok (goInt 1) (W.setCells w.heap.size p [.int .i32 c]):=fun W U I B i =>
  run_copy_cells W _ _ B 21 w.heap.size p (cap+1-p) i ⟨g,0,none⟩ 1 1 [.int .i32 c] underlying36 x3d f2Q
   (fun j v X=>by
    have:j=0:=W4v;subst this;simp at X;subst X
    rw[addr_add,U];exact F)
   (fun j X=>by rw[U];simp at X;subst X;exact r _ f6J) (fun j X=>by rw[I];exact ab _) (x1k .i32 c)
 have am:b≠w.heap.size:=f6J
 have ai:∀(W:World),(∀x,W.cell? x=(d.setCells w.heap.size p [.int .i32 c]).cell? x)->(∀x,W.frozen? x=(d.setCells w.heap.size p [.int .i32 c]).frozen? x)->∀B i q,(Builtin.copy_ #[36,36] B #[.slice (some ⟨w.heap.size,p+1,none⟩) (cap-p) i,.slice (some ⟨b,p,none⟩) (cap-p) q]).run prog W=.ok (goInt (us.drop p).length) (W.setCells w.heap.size (p+1) (us.drop p)):=fun W U I B i q =>
  run_copy_cells W _ _ B 21 w.heap.size (p+1) (cap-p) i ⟨b,p,none⟩ (cap-p) q (us.drop p) underlying36 x3d i3N
   (fun j v X=>by
    rw[addr_add,U,World.cell?_setCells_out _ _ _ _ _ (fun h _=>absurd h am)]
    exact E _ v (M (p+j) v P2S))
   (fun j X=>by
    rw[U];obtain⟨J,Z,h2⟩:=x1l w.heap.size [.int .i32 c] p d K 21 (0,0) (by rw[z];exact heap_alloc_new w.drew _) P8P
    have h3:J.size=G:=by
     have:=congrArg List.length h2;simp[laid]at this;omega
    simp[World.cell?,Z];omega)
   (fun j X=>by rw[I,World.frozen?_setCells];exact ab _) (x5u l p)
 subst z;have y:∀x,((w.alloc (.cells K 21)).drew).cell? x=(w.drew.alloc (.cells K 21)).cell? x:=fun x=>rfl;have H:∀x,((w.alloc (.cells K 21)).drew).frozen? x=(w.drew.alloc (.cells K 21)).frozen? x:=fun x=>rfl;have s:∀x,(((w.alloc (.cells K 21)).drew.setCells w.heap.size p [.int .i32 c]).drew).cell? x=((w.drew.alloc (.cells K 21)).setCells w.heap.size p [.int .i32 c]).cell? x:=fun x=>rfl;have a:∀x,(((w.alloc (.cells K 21)).drew.setCells w.heap.size p [.int .i32 c]).drew).frozen? x=((w.drew.alloc (.cells K 21)).setCells w.heap.size p [.int .i32 c]).frozen? x:=fun x=>rfl;have mixed:prog.follows Departure.mixedOrders=true:=f4A;have aN:¬((p:Int)=(cap:Int)):=f6J;have aM:IntKind.i64.wrap ((p:Int)+1)=(p:Int)+1:=s7D;have aH:(0:Int)<=(p:Int)+1:=f6J;have o:p<=cap:=f6J;have aL:((p:Int)+1).toNat=p+1:=f6J;have aI:(p:Int)<=(cap:Int):=f6J;have aG:¬(G=p):=f6J;have aD:¬(G=p+1):=f6J;have aJ:¬(cap=p):=f6J
 have HP:Hid (∀(e:Ending) (w':World),e=.returned (.slice (some ⟨w.heap.size,0,none⟩) (cap+1) G)->w'=(((w.alloc (.cells K 21)).drew.setCells w.heap.size p [.int .i32 c]).drew).setCells w.heap.size (p+1) (us.drop p)->∃(G:Nat) (K:Array Value),cap+1<=G/\G<=maxLen/\K.size=G /\
   K.toList=us.take p++List.replicate (cap+1-p) (.int .i32 0)++List.replicate (G-(cap+1)) (.int .i32 0) /\
   e=.returned (.slice (some ⟨w.heap.size,0,none⟩) (cap+1) G)/\w'=(((w.alloc (.cells K 21)).drew.setCells w.heap.size p [.int .i32 c]).drew).setCells w.heap.size (p+1) (us.drop p)) :=
  fun e w' he hw=>⟨G,K,aj,m,L,P,he,hw⟩
 clear k ae hold A D P L r ab E F M Q N S l Y C m;refine Calls.mono (R:=fun e w'=>e=.returned (.slice (some ⟨w.heap.size,0,none⟩) (cap+1) G)/\w'=(((w.alloc (.cells K 21)).drew.setCells w.heap.size p [.int .i32 c]).drew).setCells w.heap.size (p+1) (us.drop p)) ?_ (fun e w' h=>V HP e w' h.1 h.2);go_enter func63,ntmps63
 go_wp2_with(first
  | (at_builtin;refine Lib.wpList_append_run _ rfl _ _ _ _ rfl _ _ rfl rfl _ _ (af _) ?_)
  | (at_builtin;refine wpList_copy_runQ _ rfl _ _ 36 36 rfl _ _ rfl rfl (ag _ y H _ _) ?_))
 go_region_law_o (refine x3w rfl _ _ 36 36 rfl (.slice (some ⟨w.heap.size,p+1,none⟩) (cap-p) (G-(p+1))) (.slice (some ⟨b,p,none⟩) (cap-p) (cap-p)) m5r m5r (ai _ s a 3 (G-(p+1)) (cap-p)) ?_);go_wp2;go_ret;exact⟨rfl,rfl⟩
theorem y5Q B v xs p c w g(N:Ok .i32 21 w B v xs)(s:p<=xs.length)(S:xs.length<=1000000)(m:B<=w.heap.size)
  (C:w.heap[g]?=some (.cells #[.int .i32 c] 21 (0,0))) (t:v.ownBlock≠some g) (I:-2147483648<=c/\c<=2147483647) :
  Calls prog 63 #[v,.int .i64 p,.slice (some ⟨g,0,none⟩) 1 1] w (x3y B v w (Pu.ins xs p c)):=by
 rcases Nat.lt_or_ge p xs.length with E | hge
 ·have J:=N.row;rcases J.2 with⟨_,R⟩ | ⟨b,M,Q,j,Y,hh,hn,o,f,U⟩
  ·omega
  ·have l:∀u∈xs.map (Value.int .i32),u.oneCell'=true:=x0O .i32 xs;rw[Nat.mul_one]at f U;subst j;have T:g≠b:=fun h=>t (by rw[h];rfl);have d:(xs.map (Value.int .i32)).length=xs.length:=M7M;rcases Nat.lt_or_ge xs.length M with hr | hr
   ·refine(y0X b xs.length M p g Q (xs.map (Value.int .i32)) c w E f6J (by unfold maxLen at o;exact f6J) T hh f U l C).mono ?_;rintro e a ⟨rfl,rfl⟩;obtain⟨y,Z,D⟩:=x1l b ((xs.map (Value.int .i32)).drop p) (p+1) w.drew Q 21 (0,0) hh P8P
    have ab:y.size=M:=s0m
    obtain⟨q,r,H⟩:=x1l b [.int .i32 c] p _ y 21 (0,0) Z P8P
    have F:q.size=M:=t8i
    refine⟨_,rfl,Ok.of (N.1.ins I p) W9w (n:=xs.length+1) (us:=(Pu.ins xs p c).map (Value.int .i32)) ⟨by simp[x2n],.inr ⟨b,M,q,rfl,Y,r,f6J,o,f6J,?_⟩⟩ (by rw[x2n]) rfl,?_,?_⟩
    ·rw[Nat.mul_one,H,D,y9r]
     obtain⟨x,rest,A⟩:∃x rest,Q.toList=xs.map (Value.int .i32)++x::rest:=by
      have hd:Q.toList=Q.toList.take xs.length++Q.toList.drop xs.length:=(List.take_append_drop _ _).symm;rw[U]at hd
      cases hq:Q.toList.drop xs.length with
      | nil=>grind
      | cons x rest=>exact⟨x,rest,by rw[hd,hq]⟩
     rw[A];have:=y6M (us:=xs.map (Value.int .i32)) (p:=p) (u:=.int .i32 c) (x:=x) (rest:=rest) f3J;rw[d]at this;exact this
    ·exact x8u (x8u (x1J (x1h w _)) _ _) _ _
    ·intro k hk;exact .inl hk
   ·refine(y2I b xs.length M p g Q (xs.map (Value.int .i32)) c w E hn f6J S hh f U l C).mono ?_;rintro e a ⟨G,K,i,W,L,P,rfl,rfl⟩;have X:((w.alloc (.cells K 21)).drew).heap[w.heap.size]?=some (.cells K 21 (0,0)):=heap_alloc_new w _;obtain⟨y,Z,D⟩:=x1l w.heap.size [.int .i32 c] p (w.alloc (.cells K 21)).drew K 21 (0,0) X P8P
    have ab:y.size=G:=s0m
    obtain⟨q,r,H⟩:=x1l w.heap.size ((xs.map (Value.int .i32)).drop p) (p+1) (((w.alloc (.cells K 21)).drew.setCells w.heap.size p [.int .i32 c]).drew) y 21 (0,0) Z P8P
    have F:q.size=G:=t8i
    refine⟨_,rfl,Ok.of (N.1.ins I p) W9w (n:=xs.length+1) (us:=(Pu.ins xs p c).map (Value.int .i32)) ⟨by simp[x2n],.inr ⟨w.heap.size,G,q,rfl,m,r,f6J,W,f6J,?_⟩⟩ (by rw[x2n]) rfl,?_,?_⟩
    ·rw[Nat.mul_one,H,D,P,y9r];have:=y9e (us:=xs.map (Value.int .i32)) (p:=p) (k:=G-(xs.length+1)) (u:=.int .i32 c) (z:=.int .i32 0) f3J;rw[d]at this;exact this
    ·exact x3o (x1J (x3o (x1J (x3D (x1h w _) _)) (l0r _) _ _)) (l0r _) _ _
    ·intro k hk;have:k=w.heap.size:=(by simpa[Value.ownBlock]using hk.symm);exact e5w
 ·have he:p=xs.length:=f6J;subst he;exact y5R B v xs c w g N S m C I
namespace Pu
theorem z0F bias zs k v w:(rdN bias zs k v w).1=0->(rdN bias zs k v w).2.2.length<zs.length:=by
 induction zs generalizing k v w with
 | nil=>intro h;simp[rdN]at h
 | cons z r ih =>
  intro h;rw[rdN]at h ⊢;split
  ·grind
  ·grind
theorem x8I f g zs(s:St)(z:zs.length<=f)(C:zs.length<=g):x4X f zs s=x4X g zs s:=by
 induction f generalizing g zs s with
 | zero =>
  have R:zs=[]:=List.eq_nil_of_length_eq_zero f6J;subst R
  cases g with
  | zero=>rfl
  | succ g=>rfl
 | succ f ih =>
  cases g with
  | zero=>grind
  | succ g =>
   rw[x4X,x4X];by_cases R:zs=[]
   ·rw[if_pos R,if_pos R]
   ·rw[if_neg R,if_neg R];by_cases Z:(rdN s.bias zs 1 0 1).1≠0
    ·rw[if_pos Z,if_pos Z]
    ·rw[if_neg Z,if_neg Z];have S:=z0F s.bias zs 1 0 1 E1x;rw[ih g _ _ f6J f6J]
def rdW(zs:List Int)(s:St):List Int×Int:=x4X zs.length zs s
def after(s:St)(q:Int×Int×List Int):List Int×Int :=
 if q.1≠0 then([],q.1)else if 2147483647<q.2.1 then([],113)else if ¬Utf.okc (stepN s q.2.1)then([],31)else rdW q.2.2 (step s q.2.1)
theorem y3b(s:St):rdW [] s=(s.xs,0):=rfl
theorem z0G{zs}(h:zs≠[])(s:St):rdW zs s=after s (rdN s.bias zs 1 0 1):=by
 unfold rdW after
 cases hl:zs.length with
 | zero=>grind
 | succ f =>
  rw[x4X,if_neg h];by_cases Z:(rdN s.bias zs 1 0 1).1≠0
  ·rw[if_pos Z,if_pos Z]
  ·rw[if_neg Z,if_neg Z];have x:=z0F s.bias zs 1 0 1 E1x;by_cases D:2147483647<(rdN s.bias zs 1 0 1).2.1
   ·rw[if_pos D,if_pos D]
   ·rw[if_neg D,if_neg D];by_cases J:¬Utf.okc (stepN s (rdN s.bias zs 1 0 1).2.1)
    ·rw[if_pos J,if_pos J]
    ·rw[if_neg J,if_neg J];exact x8I _ _ _ _ f6J (l0r _)
theorem y0B zs:decode zs=if 65536<zs.length then([],2)else if basicB zs=false then([],111)else rdW (tail zs) (begin (zs.take (x3F zs 0 0))):=by
 unfold decode;split
 ·rfl
 ·split
  ·rfl
  ·refine x8I _ _ _ _ ?_ (l0r _);unfold tail;split
   ·exact l0r _
   ·rw[List.length_drop];omega
theorem y0p{s:St}{e v r}(h:e≠0):after s (e,v,r)=([],e):=by unfold after;rw[if_pos h]
theorem y4X{s:St}{v r}(h:2147483647<v):after s (0,v,r)=([],113):=by unfold after;rw[if_neg M7K,if_pos h]
theorem y0o{s:St}{v r}(h:¬2147483647<v)(D:¬Utf.okc (stepN s v)):after s (0,v,r)=([],31):=by unfold after;rw[if_neg M7K,if_neg h,if_pos D]
theorem y3E{s:St}{v r}(h:¬2147483647<v)(D:Utf.okc (stepN s v)):after s (0,v,r)=rdW r (step s v):=by unfold after;rw[if_neg M7K,if_neg h,if_neg (not_not_intro D)]
theorem z7K bias k v w:rdN bias [] k v w=(112,0,[]):=rfl
theorem z7J{bias z k v w r}(h:dig z<0):rdN bias (z::r) k v w=(110,0,[]):=by rw[rdN,if_pos h]
theorem x9S{bias z k v w r}(h:¬dig z<0)(D:dig z<thr k bias):rdN bias (z::r) k v w=(0,v+dig z*w,r):=by rw[rdN,if_neg h,if_pos D]
theorem y4G{bias z k v w r}(h:¬dig z<0)(D:¬dig z<thr k bias):rdN bias (z::r) k v w =
  rdN bias r (k+1) (v+dig z*w) (if 2147483648<w*(36-thr k bias)then 2147483648 else w*(36-thr k bias)):=by rw[rdN,if_neg h,if_neg D]
end Pu
