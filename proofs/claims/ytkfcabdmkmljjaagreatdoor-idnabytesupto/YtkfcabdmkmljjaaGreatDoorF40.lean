/- Lemmas. -/
import Derived.Test.YtkfcabdmkmljjaaGreatDoorF39
import Derived.WalkKit
import Derived.Lib.Walk
import Derived.Lib.SliceRun
import Derived.Lib.AppendZerosOnto
import Derived.Lib.Overlaps
import Derived.Laws.Externs
import Derived.Deep.AppendLies
import Derived.Shelf.RegionOpenPlain
set_option maxHeartbeats 4000000
set_option maxRecDepth 100000
namespace Go.Proofs.YtkfcabdmkmljjaaGreatDoor
open Go.Proofs.Tryz
open Go.RowKit
section
variable{p:Prop}
theorem s0m(h:p:=by have:=congrArg List.length D;simp[laid]at this;omega):p:=h
theorem S6C(h:p:=by go_enter func63,ntmps63;go_wp2_with(at_builtin;refine wpList_append_lies _ rfl (.tmp 23) (.tmp 24) 36 rfl B 21 i (.int .i32 0) 1 4 underlying36 hi q Y U rfl e8P _ _ _ rfl Q ⟨g,0,none⟩ 1 1 [.int .i32 c] rfl rfl y (x0P .i32 _) f6J T7W f6J f6J w.heap.size rfl ?_);intro S A C Z D h3 F;have o:=O (V W S A C Z D h3);go_wp2;go_ret;exact V o):p:=h
theorem m5r(h:p:=by simp[Act.eval,Act.put]):p:=h
theorem U8V(h:p:=by simpa[Value.ownBlock]using G.symm):p:=h
theorem G0m(h:p:=by have:=congrArg List.length F;simp[laid]at this;omega):p:=h
theorem G4O(h:p:=by rw[x2q];exact f6J):p:=h
theorem U3t(h:p:=by rw[List.length_take];exact f6J):p:=h
end
def x3z(B:Nat)(v:Value)(w:World)(xs:List Int)(e:Ending)(w':World):Prop :=
 ∃v',e=.returned v'/\Ok .i32 21 w' B v' xs/\w.grownBy w' v.ownBlock/\∀g,v'.ownBlock=some g->v.ownBlock=some g\/w.heap.size<=g
theorem x3y{P ops o a}{w}{K:Act->World->Prop}{Q}{E:Prop}
  (H:o.guard=none) (d x:Operand) dT sT (n:o.op=Op.call { callee:=Callee.builtin Builtin.copy,args:=#[d,x],argTypes:=#[dT,sT] })
  v u (hd:a.eval d=v) (A:a.eval x=u) {v' w'} (hr:(Builtin.copy_ #[dT,sT] o.type #[v,u]).run P w=.ok v' w') (hK:K (a.put o.dst v') w') :
  if Region.wanted o (yielded ops a.tmps)=true then Oper.wp P o a w K Q else E:=by
 have y:Region.wanted o (yielded ops a.tmps)=true:=(by simp[Region.wanted,H]);rw[if_pos y];unfold Oper.wp;simp[execOp,n,resolve,invoke,builtin,hd,A,hr,Result.andThen];exact hK
theorem infoR:(prog.info? 21).map (fun i=>(i.zero,i.size,i.bytes))=some (some (.int .i32 0),1,4):=f4x
theorem x3E:∃i,prog.info? 21=some i/\i.zero=some (.int .i32 0)/\i.size=1/\i.bytes=4:=by
 have h:=infoR
 cases hq:prog.info? 21 with
 | none=>rw[hq]at h;simp at h
 | some i=>grind
theorem Fit.ins{xs c}(h:Fit .i32 xs)(I:-2147483648<=c/\c<=2147483647) p:Fit .i32 (Pu.ins xs p c):=by
 intro z hz;unfold Pu.ins at hz;rcases List.mem_append.1 hz with hz | hz
 ·exact h z (List.mem_of_mem_take hz)
 ·rcases List.mem_cons.1 hz with hz | hz
  ·subst hz;exact x0O I
  ·exact h z (List.mem_of_mem_drop hz)
theorem x2q xs p c:(Pu.ins xs p c).length=xs.length+1:=by unfold Pu.ins;exact P8P
theorem y9t xs p c:(Pu.ins xs p c).map (Value.int .i32)=(xs.map (Value.int .i32)).take p++.int .i32 c::(xs.map (Value.int .i32)).drop p:=by unfold Pu.ins;exact M7K
theorem z6Z xs c:Pu.ins xs xs.length c=xs++[c]:=by unfold Pu.ins;exact M7K
theorem y5L B v xs c w g(N:Ok .i32 21 w B v xs)(X:xs.length<=1000000)(m:B<=w.heap.size)
  (H:w.heap[g]?=some (.cells #[.int .i32 c] 21 (0,0))) (I:-2147483648<=c/\c<=2147483647) :
  Calls prog 63 #[v,.int .i64 xs.length,.slice (some ⟨g,0,none⟩) 1 1] w (x3z B v w (Pu.ins xs xs.length c)):=by
 obtain⟨i,hi,q,Y,U⟩:=x3E;have Q:=N.row
 have y:∀j u,[Value.int .i32 c][j]?=some u->w.cell? ((⟨g,0,none⟩:Addr).add j)=some u:=by
  intro j u R;have:j=0:=(by grind);subst this;simp at R;rw[addr_add,<- R];simp[World.cell?,H]
 have W:Hid (∀S A C,C.ownsRow B 21 1 (.slice (some ⟨S,0,none⟩) (xs.length+1) A) (xs.length+1) (xs.map (Value.int .i32)++[.int .i32 c])->w.grownBy C v.ownBlock->(v.ownBlock=some S\/S=w.heap.size) ->
   x3z B v w (Pu.ins xs xs.length c) (.returned (.slice (some ⟨S,0,none⟩) (xs.length+1) A)) C):=by
  intro S A C Z D h3;refine⟨_,rfl,Ok.of (N.1.ins I _) G4O Z (by rw[x2q]) (by rw[z6Z];exact M7M),D,fun k G=>?_⟩;have:k=S:=U8V;subst this;rcases h3 with h3 | h3
  ·exact .inl h3
  ·exact e5w
 obtain⟨J,M,P,K,L⟩:=N.sk.shape;generalize xs.length=n at *;have r:=O Q;rw[P];rw[P]at Q W;rcases Nat.lt_or_ge n M with E | hge
 ·exact S6C
 ·have s:M=n:=f6J;subst s;exact S6C
theorem y2T w g b o lb cb(y:g≠b) c e(H:w.heap[g]?=some (.cells #[.int .i32 c] 21 (0,0))) cur(Y:w.heap[b]?=some (.cells cur e (0,0)))(G:cur.size≠0) :
  (callFunc 109 #[.slice (some ⟨g,0,none⟩) 1 1,.slice (some ⟨b,o,none⟩) lb cb]).run prog w=.ok (.value (.bool false)) w:=by
 rw[run_callFunc_extern func109 f4x f4x f4x (e:=Extern.SlicesOverlaps.overlaps #[36,36] #[4]) f4x,
  Lib.run_overlaps_apart w 36 4 21 underlying36 1 (fun w=>f4x) ⟨g,0,none⟩ ⟨b,o,none⟩ 1 1 lb cb y 21 e 1 cur.size (by simp[World.shape?,H]) (by simp[World.shape?,Y]) G (by simp[World.frozen?,H]) (by simp[World.frozen?,H])]
 rfl
theorem y6J{us p u x rest}(s:p<us.length) :
  ((laid (laid (us++x::rest) (p+1) (us.drop p)) p [u]).take (us.length+1))=us.take p++u::us.drop p:=by
 have Z:laid (us++x::rest) (p+1) (us.drop p)=us.take p++[us.getD p undef]++us.drop p++rest:=by
  unfold laid
  have P:(us++x::rest).take (p+1)=us.take p++[us.getD p undef]:=by
   rw[List.take_append_of_le_length f6J];rw[List.take_add_one,List.getElem?_eq_getElem s,List.getD,List.getElem?_eq_getElem s];rfl
  have z:(us++x::rest).drop (p+1+(us.drop p).length)=rest:=by
   rw[List.length_drop,List.drop_append,List.drop_eq_nil_of_le f6J,(f6J:p+1+(us.length-p)-us.length=1)];rfl
  rw[P,z]
 rw[Z];unfold laid;have S:(us.take p).length=p:=(by grind);have P:(us.take p++[us.getD p undef]++us.drop p++rest).take p=us.take p:=by grind
 have z:(us.take p++[us.getD p undef]++us.drop p++rest).drop (p+[u].length)=us.drop p++rest:=by
  rw[List.append_assoc,List.drop_append,List.drop_eq_nil_of_le P8P];simp only[List.length_append,List.length_singleton,S,Nat.sub_self,List.drop_zero,List.nil_append]
 rw[P,z];rw[(M7M:us.take p++[u]++(us.drop p++rest)=(us.take p++u::us.drop p)++rest)];rw[List.take_append_of_le_length P8P,List.take_of_length_le P8P]
theorem x5p{us:List Value}(h:∀u∈us,u.oneCell'=true) p:∀u∈us.drop p,u.oneCell'=true:=fun u d=>h u (List.mem_of_mem_drop d)
theorem x3e:(prog.info? 21).map (·.size)=some 1:=by
 obtain⟨i,h,_,Z,_⟩:=x3E;rw[h];simp[Z]
theorem y0V b n cap p g cur us c w(s:p<n)(o:n+1<=cap)(ae:cap<=9223372036854775807)(ab:g≠b)
  (Y:w.heap[b]?=some (.cells cur 21 (0,0))) (f:cur.size=cap) (A:cur.toList.take n=us) (L:∀u∈us,u.oneCell'=true)
  (H:w.heap[g]?=some (.cells #[.int .i32 c] 21 (0,0))) :
  Calls prog 63 #[.slice (some ⟨b,0,none⟩) n cap,.int .i64 p,.slice (some ⟨g,0,none⟩) 1 1] w fun e w' =>
   e=.returned (.slice (some ⟨b,0,none⟩) (n+1) cap)/\w'=(w.drew.setCells b (p+1) (us.drop p)).setCells b p [.int .i32 c]:=by
 have i:us.length=n:=(by grind);have N:(us.drop p).length=n-p:=(by grind);have y:∀j,j<cap->(w.cell? ⟨b,j,none⟩).isSome=true:=fun j R=>(by simp[World.cell?,Y];exact f6J);have d:∀j,w.frozen? ⟨b,j,none⟩=false:=fun j=>by simp[World.frozen?,Y]
 have I:∀j u,us[j]?=some u->w.cell? ⟨b,j,none⟩=some u:=fun j u R=>by
  rw[<- A,List.getElem?_take]at R;split at R
  ·simp[World.cell?,Y];simpa using R
  ·cases R
 have K:∀lb T,(callFunc 109 #[.slice (some ⟨g,0,none⟩) 1 1,.slice (some ⟨b,p+1,none⟩) lb T]).run prog w=.ok (.value (.bool false)) w:=fun lb T=>y2T w g b (p+1) lb T ab c 21 H cur Y f6J
 have Q:∀M C a,(Builtin.copy_ #[36,36] M #[.slice (some ⟨b,p+1,none⟩) (n-p) C,.slice (some ⟨b,p,none⟩) (n+1-p) a]).run prog w.drew=.ok (goInt (us.drop p).length) (w.drew.setCells b (p+1) (us.drop p)):=fun M C a =>
  run_copy_cells w.drew _ _ M 21 b (p+1) (n-p) C ⟨b,p,none⟩ (n+1-p) a (us.drop p) underlying36 x3e (by rw[N];simp only[Nat.min_def];exact G7p)
   (fun j v R=>by rw[addr_add];exact I (p+j) v (by rwa [List.getElem?_drop]at R))
   (fun j R=>y _ f6J) (fun j R=>d _) (x5p L p)
 obtain⟨q,z⟩:∃q,q=w.drew.setCells b (p+1) (us.drop p):=⟨_,rfl⟩
 have m:∀k,k<cap->(q.cell? ⟨b,k,none⟩).isSome=true:=fun k G=>by
  obtain⟨r,Z,D⟩:=x1p b (us.drop p) (p+1) w.drew cur _ _ Y f6J
  have J:r.size=cap:=s0m
  rw[z];simp[World.cell?,Z];omega
 have X:∀(W:World),(∀x,W.cell? x=q.cell? x)->(∀x,W.frozen? x=q.frozen? x)->∀M C,(Builtin.copy_ #[36,36] M #[.slice (some ⟨b,p,none⟩) (n+1-p) C,.slice (some ⟨g,0,none⟩) 1 1]).run prog W=.ok (goInt 1) (W.setCells b p [.int .i32 c]):=fun W B P M C =>
  run_copy_cells W _ _ M 21 b p (n+1-p) C ⟨g,0,none⟩ 1 1 [.int .i32 c] underlying36 x3e (by simp only[Nat.min_def,List.length_singleton];exact G7p)
   (fun j v R=>by
    rw[addr_add,B,z,World.cell?_setCells_out b _ _ _ _ (fun h _=>absurd h ab)];have:j=0:=(by simpa using(List.getElem?_eq_some_iff.1 R).1);subst this;simp at R;subst R;show w.cell? ⟨g,0+0,none⟩=_
    simp[World.cell?,H])
   (fun j R=>by rw[B];simp at R;subst R;exact m _ f6J) (fun j R=>by rw[P,z,World.frozen?_setCells];exact d _) (x0P .i32 c)
 rw[<- z]at Q ⊢;have U:¬((p:Int)=(n:Int)):=f6J;have t:¬(cap=p+1):=f6J;have S:¬(cap=p):=f6J;have mixed:prog.follows Departure.mixedOrders=true:=f4y;have E:IntKind.i64.wrap ((p:Int)+1)=(p:Int)+1:=s7D;have F:(0:Int)<=(p:Int)+1:=f6J;have l:p<=n:=f6J;have am:((p:Int)+1).toNat=p+1:=f6J;have aj:(p:Int)<=(n:Int)+1:=f6J;clear z m I d y i N A L Y H f;go_enter func63,ntmps63;go_wp2_with(simp only[K]);go_region_law_o (refine x3y rfl _ _ 36 36 rfl _ _ m5r m5r (Q _ _ _) ?_);go_wp2_with(at_builtin;refine wpList_copy_runQ _ rfl _ _ 36 36 rfl _ _ rfl rfl (X _ (fun _=>rfl) (fun _=>rfl) _ _) ?_);go_ret;exact⟨rfl,rfl⟩
theorem y9D a b vs o(h:a.length=o):laid (a++b) o vs=a++vs++b.drop vs.length:=by
 subst h;unfold laid;rw[List.take_left,List.drop_append,List.drop_eq_nil_of_le f6J,Nat.add_sub_cancel_left,List.nil_append]
theorem y9d{us:List Value}{p k u z}(s:p<us.length) :
  ((laid (laid (us.take p++List.replicate (us.length+1-p) z++List.replicate k z) p [u]) (p+1) (us.drop p)).take (us.length+1))=us.take p++u::us.drop p:=by
 have S:(us.take p).length=p:=(by grind);rw[List.append_assoc,y9D _ _ _ p S,y9D _ _ _ (p+1) P8P];rw[(M7M:us.take p++[u]++us.drop p=us.take p++u::us.drop p)];rw[List.take_append_of_le_length P8P,List.take_of_length_le P8P]
theorem y1V n:(Builtin.zeroCells (Value.int .i32 0).cells n).toList=List.replicate n (.int .i32 0):=by
 refine List.ext_getElem (by simp[Builtin.zeroCells,Value.cells]) fun i Z D=>?_;simp[Builtin.zeroCells,Value.cells,Nat.mod_one]
theorem y2I b n cap p g cur us c w(hp:p<n)(aK:n<=cap)(o:cap<n+1)(aF:n<=1000000)
  (Y:w.heap[b]?=some (.cells cur 21 (0,0))) (f:cur.size=cap) (aj:cur.toList.take n=us) (L:∀u∈us,u.oneCell'=true)
  (hg:w.heap[g]?=some (.cells #[.int .i32 c] 21 (0,0))) :
  Calls prog 63 #[.slice (some ⟨b,0,none⟩) n cap,.int .i64 p,.slice (some ⟨g,0,none⟩) 1 1] w fun e w'=>∃(G:Nat) (K:Array Value),n+1<=G/\G<=maxLen/\K.size=G /\
   K.toList=us.take p++List.replicate (n+1-p) (.int .i32 0)++List.replicate (G-(n+1)) (.int .i32 0) /\
   e=.returned (.slice (some ⟨w.heap.size,0,none⟩) (n+1) G)/\w'=(((w.alloc (.cells K 21)).drew.setCells w.heap.size p [.int .i32 c]).drew).setCells w.heap.size (p+1) (us.drop p):=by
 obtain⟨i0,d,aB,aC,S⟩:=x3E;have aA:cap=n:=f6J;subst aA;have i:us.length=cap:=(by rw[<- aj,List.length_take];exact P8P);have N:(us.drop p).length=cap-p:=by rw[List.length_drop,i]
 have I:∀j u,us[j]?=some u->w.cell? ⟨b,j,none⟩=some u:=fun j u hj=>by
  rw[<- aj,List.getElem?_take]at hj;split at hj
  ·simp[World.cell?,Y];simpa using hj
  ·cases hj
 have ay:b<w.heap.size:=(Array.getElem?_eq_some_iff.1 Y).1;have t:g<w.heap.size:=(Array.getElem?_eq_some_iff.1 hg).1;have aq:(cap:Int)+1-(p:Int)=((cap+1-p:Nat):Int):=f6J;have J:p+(cap+1-p)=cap+1:=f6J
 have hold:(Builtin.firstCells i0.size p (.slice (some ⟨b,0,none⟩) p cap)).run prog w.drew=.ok (us.take p).toArray w.drew:=by
  rw[aC]
  exact run_firstCells_some w.drew 1 p ⟨b,0,none⟩ p cap (us.take p) U3t (fun j v hj=>by
   rw[addr_add,Nat.zero_add];rw[List.getElem?_take]at hj;split at hj
   ·exact I j v hj
   ·cases hj)
 have y:∀M,(Builtin.append_ #[36,3] M #[.slice (some ⟨b,0,none⟩) p cap,.int .i64 ((cap:Int)+1-(p:Int))]).run prog w =
   .ok (.slice (some ⟨w.heap.size,0,none⟩) (cap+1) (grownCap w (cap+1) cap 21)) (w.drew.alloc (.cells ((us.take p).toArray++Builtin.zeroCells (Value.int .i32 0).cells (cap+1-p)++Builtin.zeroCells (Value.int .i32 0).cells (grownCap w (cap+1) cap 21-(cap+1))) 21)):=fun M=>by
  have h:=Lib.run_append_grow_zeros w 36 3 M 21 i0 _ .i64 .i64 underlying36 underlying3 d aB (some ⟨b,0,none⟩) p cap (us.take p) hold (cap+1-p) f6J f6J f6J f6J (by rw[S];exact f6J) (by rw[S,J];exact growslice_fits f6J f6J);rw[J]at h;rw[aq];exact h
 obtain⟨G,D⟩:∃G,G=grownCap w (cap+1) cap 21:=⟨_,rfl⟩;obtain⟨K,A⟩:∃K:Array Value,K=(us.take p).toArray++Builtin.zeroCells (Value.int .i32 0).cells (cap+1-p)++Builtin.zeroCells (Value.int .i32 0).cells (G-(cap+1)):=⟨_,rfl⟩;rw[<- D,<- A]at y;have ar:cap+1<=G:=(by rw[D];exact grownCap_ge w _ _ _);have m:G<=maxLen:=(by rw[D];exact grownCap_le_maxLen w (cap+1) cap 21 T7X);have Q:G<=9223372036854775807:=by unfold maxLen at m;exact f6J
 have ae:K.toList=us.take p++List.replicate (cap+1-p) (.int .i32 0)++List.replicate (G-(cap+1)) (.int .i32 0):=by
  rw[A];rw[Array.toList_append,Array.toList_append,y1V,y1V]
 have a:K.size=G:=by
  have:=congrArg List.length ae;simp at this;omega
 obtain⟨q,z⟩:∃q,q=w.drew.alloc (.cells K 21):=⟨_,rfl⟩;rw[<- z]at y
 have hN:∀j,j<cap+1->(q.cell? ⟨w.heap.size,j,none⟩).isSome=true:=fun j hj=>by
  rw[z,World.cell?_alloc_at (w:=w.drew) K _ w.heap.size j rfl,Array.getElem?_eq_getElem f6J];rfl
 have ab:∀j,q.frozen? ⟨w.heap.size,j,none⟩=false:=fun j=>(by rw[z];exact World.frozen?_alloc_at (w:=w.drew) K _ w.heap.size j rfl);have E:∀j v,w.cell? ⟨b,j,none⟩=some v->q.cell? ⟨b,j,none⟩=some v:=fun j v h=>(by rw[z,World.cell?_alloc_past (w:=w.drew) _ b j ay];exact h);have F:q.cell? ⟨g,0,none⟩=some (.int .i32 c):=by rw[z,World.cell?_alloc_past (w:=w.drew) _ g 0 t];show w.cell? ⟨g,0,none⟩=_;simp[World.cell?,hg]
 have H:∀(W:World),(∀x,W.cell? x=q.cell? x)->(∀x,W.frozen? x=q.frozen? x)->∀M C,(Builtin.copy_ #[36,36] M #[.slice (some ⟨w.heap.size,p,none⟩) (cap+1-p) C,.slice (some ⟨g,0,none⟩) 1 1]).run prog W=.ok (goInt 1) (W.setCells w.heap.size p [.int .i32 c]):=fun W B P M C =>
  run_copy_cells W _ _ M 21 w.heap.size p (cap+1-p) C ⟨g,0,none⟩ 1 1 [.int .i32 c] underlying36 x3e (by simp only[Nat.min_def,List.length_singleton];split<;>omega)
   (fun j v hj=>by
    have:j=0:=(by simpa using(List.getElem?_eq_some_iff.1 hj).1);subst this;simp at hj;subst hj
    rw[addr_add,B];exact F)
   (fun j hj=>by rw[B];simp at hj;subst hj;exact hN _ f6J) (fun j hj=>by rw[P];exact ab _) (x0P .i32 c)
 have aw:b≠w.heap.size:=f6J
 have am:∀(W:World),(∀x,W.cell? x=(q.setCells w.heap.size p [.int .i32 c]).cell? x)->(∀x,W.frozen? x=(q.setCells w.heap.size p [.int .i32 c]).frozen? x)->∀M C sc,(Builtin.copy_ #[36,36] M #[.slice (some ⟨w.heap.size,p+1,none⟩) (cap-p) C,.slice (some ⟨b,p,none⟩) (cap-p) sc]).run prog W=.ok (goInt (us.drop p).length) (W.setCells w.heap.size (p+1) (us.drop p)):=fun W B P M C sc =>
  run_copy_cells W _ _ M 21 w.heap.size (p+1) (cap-p) C ⟨b,p,none⟩ (cap-p) sc (us.drop p) underlying36 x3e (by rw[N];simp only[Nat.min_def];split<;>omega)
   (fun j v hj=>by
    rw[addr_add,B,World.cell?_setCells_out _ _ _ _ _ (fun h _=>absurd h aw)]
    exact E _ v (I (p+j) v (by rwa [List.getElem?_drop]at hj)))
   (fun j hj=>by
    rw[B];obtain⟨r,h1,h2⟩:=x1p w.heap.size [.int .i32 c] p q K 21 (0,0) (by rw[z];exact heap_alloc_new w.drew _) P8P
    have h3:r.size=G:=by
     have:=congrArg List.length h2;simp[laid]at this;omega
    simp[World.cell?,h1];omega)
   (fun j hj=>by rw[P,World.frozen?_setCells];exact ab _) (x5p L p)
 subst z;have T:∀x,((w.alloc (.cells K 21)).drew).cell? x=(w.drew.alloc (.cells K 21)).cell? x:=fun x=>rfl;have k:∀x,((w.alloc (.cells K 21)).drew).frozen? x=(w.drew.alloc (.cells K 21)).frozen? x:=fun x=>rfl;have U:∀x,(((w.alloc (.cells K 21)).drew.setCells w.heap.size p [.int .i32 c]).drew).cell? x=((w.drew.alloc (.cells K 21)).setCells w.heap.size p [.int .i32 c]).cell? x:=fun x=>rfl;have X:∀x,(((w.alloc (.cells K 21)).drew.setCells w.heap.size p [.int .i32 c]).drew).frozen? x=((w.drew.alloc (.cells K 21)).setCells w.heap.size p [.int .i32 c]).frozen? x:=fun x=>rfl;have mixed:prog.follows Departure.mixedOrders=true:=f4A;have aN:¬((p:Int)=(cap:Int)):=f6J;have aM:IntKind.i64.wrap ((p:Int)+1)=(p:Int)+1:=s7E;have aH:(0:Int)<=(p:Int)+1:=f6J;have l:p<=cap:=f6J;have aL:((p:Int)+1).toNat=p+1:=f6J;have aI:(p:Int)<=(cap:Int):=f6J;have aG:¬(G=p):=f6J;have aD:¬(G=p+1):=f6J;have aJ:¬(cap=p):=f6J
 have Z:Hid (∀(e:Ending) (w':World),e=.returned (.slice (some ⟨w.heap.size,0,none⟩) (cap+1) G)->w'=(((w.alloc (.cells K 21)).drew.setCells w.heap.size p [.int .i32 c]).drew).setCells w.heap.size (p+1) (us.drop p)->∃(G:Nat) (K:Array Value),cap+1<=G/\G<=maxLen/\K.size=G /\
   K.toList=us.take p++List.replicate (cap+1-p) (.int .i32 0)++List.replicate (G-(cap+1)) (.int .i32 0) /\
   e=.returned (.slice (some ⟨w.heap.size,0,none⟩) (cap+1) G)/\w'=(((w.alloc (.cells K 21)).drew.setCells w.heap.size p [.int .i32 c]).drew).setCells w.heap.size (p+1) (us.drop p)) :=
  fun e w' s hw=>⟨G,K,ar,m,a,ae,s,hw⟩
 clear aq J hold A D ae a hN ab E F I i N aj L Y hg m;refine Calls.mono (R:=fun e w'=>e=.returned (.slice (some ⟨w.heap.size,0,none⟩) (cap+1) G)/\w'=(((w.alloc (.cells K 21)).drew.setCells w.heap.size p [.int .i32 c]).drew).setCells w.heap.size (p+1) (us.drop p)) ?_ (fun e w' h=>V Z e w' h.1 h.2);go_enter func63,ntmps63
 go_wp2_with(first
  | (at_builtin;refine Lib.wpList_append_run _ rfl _ _ _ _ rfl _ _ rfl rfl _ _ (y _) ?_)
  | (at_builtin;refine wpList_copy_runQ _ rfl _ _ 36 36 rfl _ _ rfl rfl (H _ T k _ _) ?_))
 go_region_law_o (refine x3y rfl _ _ 36 36 rfl (.slice (some ⟨w.heap.size,p+1,none⟩) (cap-p) (G-(p+1))) (.slice (some ⟨b,p,none⟩) (cap-p) (cap-p)) m5r m5r (am _ U X 3 (G-(p+1)) (cap-p)) ?_);go_wp2;go_ret;exact⟨rfl,rfl⟩
theorem y5K B v xs p c w g(N:Ok .i32 21 w B v xs)(hp:p<=xs.length)(S:xs.length<=1000000)(m:B<=w.heap.size)
  (H:w.heap[g]?=some (.cells #[.int .i32 c] 21 (0,0))) (y:v.ownBlock≠some g) (I:-2147483648<=c/\c<=2147483647) :
  Calls prog 63 #[v,.int .i64 p,.slice (some ⟨g,0,none⟩) 1 1] w (x3z B v w (Pu.ins xs p c)):=by
 rcases Nat.lt_or_ge p xs.length with E | hge
 ·have r:=N.row;rcases r.2 with⟨_,U⟩ | ⟨b,M,t,P,Y,hh,hn,l,f,T⟩
  ·omega
  ·have L:∀u∈xs.map (Value.int .i32),u.oneCell'=true:=x0T .i32 xs;rw[Nat.mul_one]at f T;subst P;have d:g≠b:=fun h=>y (by rw[h];rfl);have o:(xs.map (Value.int .i32)).length=xs.length:=M7M;rcases Nat.lt_or_ge xs.length M with hr | hr
   ·refine(y0V b xs.length M p g t (xs.map (Value.int .i32)) c w E f6J (by unfold maxLen at l;exact f6J) d hh f T L H).mono ?_;rintro e C ⟨rfl,rfl⟩;obtain⟨q,Z,D⟩:=x1p b ((xs.map (Value.int .i32)).drop p) (p+1) w.drew t 21 (0,0) hh P8P
    have ab:q.size=M:=s0m
    obtain⟨Q,J,F⟩:=x1p b [.int .i32 c] p _ q 21 (0,0) Z P8P
    have i:Q.size=M:=G0m
    refine⟨_,rfl,Ok.of (N.1.ins I p) G4O (n:=xs.length+1) (us:=(Pu.ins xs p c).map (Value.int .i32)) ⟨by simp[x2q],.inr ⟨b,M,Q,rfl,Y,J,f6J,l,f6J,?_⟩⟩ (by rw[x2q]) rfl,?_,?_⟩
    ·rw[Nat.mul_one,F,D,y9t]
     obtain⟨x,rest,A⟩:∃x rest,t.toList=xs.map (Value.int .i32)++x::rest:=by
      have hd:t.toList=t.toList.take xs.length++t.toList.drop xs.length:=(List.take_append_drop _ _).symm;rw[T]at hd
      cases hq:t.toList.drop xs.length with
      | nil=>grind
      | cons x rest=>exact⟨x,rest,by rw[hd,hq]⟩
     rw[A];have:=y6J (us:=xs.map (Value.int .i32)) (p:=p) (u:=.int .i32 c) (x:=x) (rest:=rest) f3L;rw[o]at this;exact this
    ·exact x8q (x8q (x1H (x1n w _)) _ _) _ _
    ·intro k hk;exact .inl hk
   ·refine(y2I b xs.length M p g t (xs.map (Value.int .i32)) c w E hn f6J S hh f T L H).mono ?_;rintro e C ⟨G,K,j,R,a,W,rfl,rfl⟩;have X:((w.alloc (.cells K 21)).drew).heap[w.heap.size]?=some (.cells K 21 (0,0)):=heap_alloc_new w _;obtain⟨q,Z,D⟩:=x1p w.heap.size [.int .i32 c] p (w.alloc (.cells K 21)).drew K 21 (0,0) X P8P
    have ab:q.size=G:=s0m
    obtain⟨Q,J,F⟩:=x1p w.heap.size ((xs.map (Value.int .i32)).drop p) (p+1) (((w.alloc (.cells K 21)).drew.setCells w.heap.size p [.int .i32 c]).drew) q 21 (0,0) Z P8P
    have i:Q.size=G:=G0m
    refine⟨_,rfl,Ok.of (N.1.ins I p) G4O (n:=xs.length+1) (us:=(Pu.ins xs p c).map (Value.int .i32)) ⟨by simp[x2q],.inr ⟨w.heap.size,G,Q,rfl,m,J,f6J,R,f6J,?_⟩⟩ (by rw[x2q]) rfl,?_,?_⟩
    ·rw[Nat.mul_one,F,D,W,y9t];have:=y9d (us:=xs.map (Value.int .i32)) (p:=p) (k:=G-(xs.length+1)) (u:=.int .i32 c) (z:=.int .i32 0) f3L;rw[o]at this;exact this
    ·exact x3q (x1H (x3q (x1H (x3D (x1n w _) _)) (l0r _) _ _)) (l0r _) _ _
    ·intro k hk;have:k=w.heap.size:=(by simpa[Value.ownBlock]using hk.symm);exact e5w
 ·have s:p=xs.length:=f6J;subst s;exact y5L B v xs c w g N S m H I
namespace Pu
theorem z0G bias zs k v w:(rdN bias zs k v w).1=0->(rdN bias zs k v w).2.2.length<zs.length:=by
 induction zs generalizing k v w with
 | nil=>intro h;simp[rdN]at h
 | cons z r ih =>
  intro h;rw[rdN]at h ⊢;split
  ·grind
  ·grind
theorem x8E f g zs(s:St)(C:zs.length<=f)(H:zs.length<=g):x4U f zs s=x4U g zs s:=by
 induction f generalizing g zs s with
 | zero =>
  have U:zs=[]:=List.eq_nil_of_length_eq_zero f6J;subst U
  cases g with
  | zero=>rfl
  | succ g=>rfl
 | succ f ih =>
  cases g with
  | zero=>grind
  | succ g =>
   rw[x4U,x4U];by_cases U:zs=[]
   ·rw[if_pos U,if_pos U]
   ·rw[if_neg U,if_neg U];by_cases Z:(rdN s.bias zs 1 0 1).1≠0
    ·rw[if_pos Z,if_pos Z]
    ·rw[if_neg Z,if_neg Z];have S:=z0G s.bias zs 1 0 1 E1A;rw[ih g _ _ f6J f6J]
def rdW(zs:List Int)(s:St):List Int×Int:=x4U zs.length zs s
def after(s:St)(q:Int×Int×List Int):List Int×Int :=
 if q.1≠0 then([],q.1)else if 2147483647<q.2.1 then([],113)else if ¬Utf.okc (stepN s q.2.1)then([],31)else rdW q.2.2 (step s q.2.1)
theorem z7O(s:St):rdW [] s=(s.xs,0):=rfl
theorem z7P{zs}(h:zs≠[])(s:St):rdW zs s=after s (rdN s.bias zs 1 0 1):=by
 unfold rdW after
 cases hl:zs.length with
 | zero=>grind
 | succ f =>
  rw[x4U,if_neg h];by_cases Z:(rdN s.bias zs 1 0 1).1≠0
  ·rw[if_pos Z,if_pos Z]
  ·rw[if_neg Z,if_neg Z];have x:=z0G s.bias zs 1 0 1 E1A;by_cases D:2147483647<(rdN s.bias zs 1 0 1).2.1
   ·rw[if_pos D,if_pos D]
   ·rw[if_neg D,if_neg D];by_cases J:¬Utf.okc (stepN s (rdN s.bias zs 1 0 1).2.1)
    ·rw[if_pos J,if_pos J]
    ·rw[if_neg J,if_neg J];exact x8E _ _ _ _ f6J (l0r _)
theorem y8n zs:decode zs=if 65536<zs.length then([],2)else if basicB zs=false then([],111)else rdW (tail zs) (begin (zs.take (x4M zs 0 0))):=by
 unfold decode;split
 ·rfl
 ·split
  ·rfl
  ·refine x8E _ _ _ _ ?_ (l0r _);unfold tail;split
   ·exact l0r _
   ·rw[List.length_drop];omega
theorem y0p{s:St}{e v r}(h:e≠0):after s (e,v,r)=([],e):=by unfold after;rw[if_pos h]
theorem y4S{s:St}{v r}(h:2147483647<v):after s (0,v,r)=([],113):=by unfold after;rw[if_neg M7K,if_pos h]
theorem y0o{s:St}{v r}(h:¬2147483647<v)(D:¬Utf.okc (stepN s v)):after s (0,v,r)=([],31):=by unfold after;rw[if_neg M7K,if_neg h,if_pos D]
theorem z1X{s:St}{v r}(h:¬2147483647<v)(D:Utf.okc (stepN s v)):after s (0,v,r)=rdW r (step s v):=by unfold after;rw[if_neg M7K,if_neg h,if_neg (not_not_intro D)]
theorem z7N bias k v w:rdN bias [] k v w=(112,0,[]):=rfl
theorem z7M{bias z k v w r}(h:dig z<0):rdN bias (z::r) k v w=(110,0,[]):=by rw[rdN,if_pos h]
theorem z3Y{bias z k v w r}(h:¬dig z<0)(D:dig z<thr k bias):rdN bias (z::r) k v w=(0,v+dig z*w,r):=by rw[rdN,if_neg h,if_pos D]
theorem z3Z{bias z k v w r}(h:¬dig z<0)(D:¬dig z<thr k bias):rdN bias (z::r) k v w =
  rdN bias r (k+1) (v+dig z*w) (if 2147483648<w*(36-thr k bias)then 2147483648 else w*(36-thr k bias)):=by rw[rdN,if_neg h,if_neg D]
end Pu
