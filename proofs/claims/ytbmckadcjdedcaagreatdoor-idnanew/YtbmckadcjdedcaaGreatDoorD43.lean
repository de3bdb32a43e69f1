/- YPuI11 YPuJ11 YPuR11 -/
import Derived.Test.YtbmckadcjdedcaaGreatDoorD42
import Derived.WalkKit
import Derived.Lib.Walk
import Derived.Lib.SliceRun
import Derived.Lib.AppendZerosOnto
import Derived.Lib.Overlaps
import Derived.Laws.Externs
import Derived.Deep.AppendLies
import Derived.Shelf.RegionOpenPlain
set_option maxHeartbeats 4000000
set_option maxRecDepth 100000
namespace Go.Proofs.YtbmckadcjdedcaaGreatDoor
open Go.Proofs.Tryz
open Go.RowKit
section
variable{p:Prop}
theorem p7i(h:p:=by have:=congrArg List.length Z;simp[laid]at this;omega):p:=h
theorem p6E(h:p:=by go_enter func203,ntmps203;go_wp2_with(at_builtin;refine wpList_append_lies _ rfl (.tmp 23) (.tmp 24) 40 rfl B 21 r (.int .i32 0) 1 4 underlying40 hi i d f rfl e8P _ _ _ rfl a ⟨g,0,none⟩ 1 1 [.int .i32 c] rfl rfl X (x0J .i32 _) f6J T7W f6J f6J w.heap.size rfl ?_);intro E J R D Z h3 H;have W:=O (V L E J R D Z h3);go_wp2;go_ret;exact V W):p:=h
theorem m5r(h:p:=by simp[Act.eval,Act.put]):p:=h
theorem m8M(h:p:=by rw[x2v];exact f6J):p:=h
theorem U8V(h:p:=by simpa[Value.ownBlock]using G.symm):p:=h
theorem N7z(h:p:=by simpa using(List.getElem?_eq_some_iff.1 K).1):p:=h
theorem g2S(h:p:=by have:=congrArg List.length r;simp[laid]at this;omega):p:=h
theorem U3t(h:p:=by rw[List.length_take];exact f6J):p:=h
theorem E0S(h:p:=by rwa [List.getElem?_drop]at K):p:=h
end
def x3F(B:Nat)(v:Value)(w:World)(xs:List Int)(e:Ending)(w':World):Prop :=
 ∃v',e=.returned v'/\Ok .i32 21 w' B v' xs/\w.grownBy w' v.ownBlock/\∀g,v'.ownBlock=some g->v.ownBlock=some g\/w.heap.size<=g
theorem x3D{P:Program}{A:Array Oper}{o:Oper}{a:Act}{w:World}{K:Act->World->Prop}{Q:Exit->Act->World->Prop}{E:Prop}
  (Y:o.guard=none) (d x:Operand) (B C:TypeId) (i:o.op=Op.call { callee:=Callee.builtin Builtin.copy,args:=#[d,x],argTypes:=#[B,C] })
  (v u:Value) (hd:a.eval d=v) (J:a.eval x=u) {v':Value} {w':World} (hr:(Builtin.copy_ #[B,C] o.type #[v,u]).run P w=.ok v' w') (hK:K (a.put o.dst v') w') :
  if Region.wanted o (yielded A a.tmps)=true then Oper.wp P o a w K Q else E:=by
 have t:Region.wanted o (yielded A a.tmps)=true:=(by simp[Region.wanted,Y]);rw[if_pos t];unfold Oper.wp;simp[execOp,i,resolve,invoke,builtin,hd,J,hr,Result.andThen];exact hK
theorem infoR:(prog.info? 21).map (fun i=>(i.zero,i.size,i.bytes))=some (some (.int .i32 0),1,4):=f4x
theorem x3K:∃i,prog.info? 21=some i/\i.zero=some (.int .i32 0)/\i.size=1/\i.bytes=4:=by
 have h:=infoR
 cases hq:prog.info? 21 with
 | none=>rw[hq]at h;simp at h
 | some i=>grind
theorem Fit.ins{xs:List Int}{c:Int}(h:Fit .i32 xs)(I:-2147483648<=c/\c<=2147483647)(p:Nat):Fit .i32 (Pu.ins xs p c):=by
 intro z hz;unfold Pu.ins at hz;rcases List.mem_append.1 hz with hz | hz
 ·exact h z (List.mem_of_mem_take hz)
 ·rcases List.mem_cons.1 hz with hz | hz
  ·subst hz;exact x0T I
  ·exact h z (List.mem_of_mem_drop hz)
theorem x2v(xs:List Int)(p:Nat)(c:Int):(Pu.ins xs p c).length=xs.length+1:=by unfold Pu.ins;exact P8P
theorem y8i(xs:List Int)(p:Nat)(c:Int):(Pu.ins xs p c).map (Value.int .i32)=(xs.map (Value.int .i32)).take p++.int .i32 c::(xs.map (Value.int .i32)).drop p:=by unfold Pu.ins;exact M7K
theorem z5i(xs:List Int)(c:Int):Pu.ins xs xs.length c=xs++[c]:=by unfold Pu.ins;exact M7K
theorem y4V(B:Nat)(v:Value)(xs:List Int)(c:Int)(w:World)(g:Nat)(N:Ok .i32 21 w B v xs)(S:xs.length<=1000000)(l:B<=w.heap.size)
  (Y:w.heap[g]?=some (.cells #[.int .i32 c] 21 (0,0))) (I:-2147483648<=c/\c<=2147483647) :
  Calls prog 203 #[v,.int .i64 xs.length,.slice (some ⟨g,0,none⟩) 1 1] w (x3F B v w (Pu.ins xs xs.length c)):=by
 obtain⟨r,hi,i,d,f⟩:=x3K;have a:=N.row
 have X:∀j u,[Value.int .i32 c][j]?=some u->w.cell? ((⟨g,0,none⟩:Addr).add j)=some u:=by
  intro j u F;have:j=0:=(by grind);subst this;simp at F;rw[addr_add,<- F];simp[World.cell?,Y]
 have L:Hid (∀E J R,R.ownsRow B 21 1 (.slice (some ⟨E,0,none⟩) (xs.length+1) J) (xs.length+1) (xs.map (Value.int .i32)++[.int .i32 c])->w.grownBy R v.ownBlock->(v.ownBlock=some E\/E=w.heap.size) ->
   x3F B v w (Pu.ins xs xs.length c) (.returned (.slice (some ⟨E,0,none⟩) (xs.length+1) J)) R):=by
  intro E J R D Z h3;refine⟨_,rfl,Ok.of (N.1.ins I _) m8M D (by rw[x2v]) (by rw[z5i];exact M7N),Z,fun k G=>?_⟩;have:k=E:=U8V;subst this;rcases h3 with h3 | h3
  ·exact .inl h3
  ·exact e5w
 obtain⟨s,M,K,A,C⟩:=N.sk.shape;generalize xs.length=n at *;have P:=O a;rw[K];rw[K]at a L;rcases Nat.lt_or_ge n M with Q | hge
 ·exact p6E
 ·have q:M=n:=f6J;subst q;exact p6E
theorem y2l(w:World)(g b o lb A:Nat)(F:g≠b)(c:Int)(e:TypeId)(Y:w.heap[g]?=some (.cells #[.int .i32 c] 21 (0,0)))(P:Array Value)(C:w.heap[b]?=some (.cells P e (0,0)))(G:P.size≠0) :
  (callFunc 252 #[.slice (some ⟨g,0,none⟩) 1 1,.slice (some ⟨b,o,none⟩) lb A]).run prog w=.ok (.value (.bool false)) w:=by
 rw[run_callFunc_extern func252 f4x f4x f4x (e:=Extern.SlicesOverlaps.overlaps #[40,40] #[4]) f4x,
  Lib.run_overlaps_apart w 40 4 21 underlying40 1 (fun w=>f4x) ⟨g,0,none⟩ ⟨b,o,none⟩ 1 1 lb A F 21 e 1 P.size (by simp[World.shape?,Y]) (by simp[World.shape?,C]) G (by simp[World.frozen?,Y]) (by simp[World.frozen?,Y])]
 rfl
theorem y5M{us:List Value}{p:Nat}{u x:Value}{rest:List Value}(A:p<us.length) :
  ((laid (laid (us++x::rest) (p+1) (us.drop p)) p [u]).take (us.length+1))=us.take p++u::us.drop p:=by
 have D:laid (us++x::rest) (p+1) (us.drop p)=us.take p++[us.getD p undef]++us.drop p++rest:=by
  unfold laid
  have N:(us++x::rest).take (p+1)=us.take p++[us.getD p undef]:=by
   rw[List.take_append_of_le_length f6J];rw[List.take_add_one,List.getElem?_eq_getElem A,List.getD,List.getElem?_eq_getElem A];rfl
  have f:(us++x::rest).drop (p+1+(us.drop p).length)=rest:=by
   rw[List.length_drop,List.drop_append,List.drop_eq_nil_of_le f6J,(f6J:p+1+(us.length-p)-us.length=1)];rfl
  rw[N,f]
 rw[D];unfold laid;have S:(us.take p).length=p:=(by grind);have N:(us.take p++[us.getD p undef]++us.drop p++rest).take p=us.take p:=by grind
 have f:(us.take p++[us.getD p undef]++us.drop p++rest).drop (p+[u].length)=us.drop p++rest:=by
  rw[List.append_assoc,List.drop_append,List.drop_eq_nil_of_le P8P];simp only[List.length_append,List.length_singleton,S,Nat.sub_self,List.drop_zero,List.nil_append]
 rw[N,f];rw[(M7N:us.take p++[u]++(us.drop p++rest)=(us.take p++u::us.drop p)++rest)];rw[List.take_append_of_le_length P8P,List.take_of_length_le P8P]
theorem x5i{us:List Value}(h:∀u∈us,u.oneCell'=true)(p:Nat):∀u∈us.drop p,u.oneCell'=true:=fun u W=>h u (List.mem_of_mem_drop W)
theorem x3n:(prog.info? 21).map (·.size)=some 1:=by
 obtain⟨i,h,_,D,_⟩:=x3K;rw[h];simp[D]
theorem y0r(b n cap p g:Nat)(P:Array Value)(us:List Value)(c:Int)(w:World)(hp:p<n)(m:n+1<=cap)(r:cap<=9223372036854775807)(F:g≠b)
  (C:w.heap[b]?=some (.cells P 21 (0,0))) (I:P.size=cap) (d:P.toList.take n=us) (Q:∀u∈us,u.oneCell'=true)
  (hg:w.heap[g]?=some (.cells #[.int .i32 c] 21 (0,0))) :
  Calls prog 203 #[.slice (some ⟨b,0,none⟩) n cap,.int .i64 p,.slice (some ⟨g,0,none⟩) 1 1] w fun e w' =>
   e=.returned (.slice (some ⟨b,0,none⟩) (n+1) cap)/\w'=(w.drew.setCells b (p+1) (us.drop p)).setCells b p [.int .i32 c]:=by
 have T:us.length=n:=(by grind);have A:(us.drop p).length=n-p:=(by grind);have X:∀j,j<cap->(w.cell? ⟨b,j,none⟩).isSome=true:=fun j K=>(by simp[World.cell?,C];exact f6J);have i:∀j,w.frozen? ⟨b,j,none⟩=false:=fun j=>by simp[World.frozen?,C]
 have s:∀j u,us[j]?=some u->w.cell? ⟨b,j,none⟩=some u:=fun j u K=>by
  rw[<- d,List.getElem?_take]at K;split at K
  ·simp[World.cell?,C];simpa using K
  ·cases K
 have J:∀q Y,(callFunc 252 #[.slice (some ⟨g,0,none⟩) 1 1,.slice (some ⟨b,p+1,none⟩) q Y]).run prog w=.ok (.value (.bool false)) w:=fun q Y=>y2l w g b (p+1) q Y F c 21 hg P C f6J
 have H:∀N B S,(Builtin.copy_ #[40,40] N #[.slice (some ⟨b,p+1,none⟩) (n-p) B,.slice (some ⟨b,p,none⟩) (n+1-p) S]).run prog w.drew=.ok (goInt (us.drop p).length) (w.drew.setCells b (p+1) (us.drop p)):=fun N B S =>
  run_copy_cells w.drew _ _ N 21 b (p+1) (n-p) B ⟨b,p,none⟩ (n+1-p) S (us.drop p) underlying40 x3n (by rw[A];simp only[Nat.min_def];exact G7p)
   (fun j v K=>by rw[addr_add];exact s (p+j) v E0S)
   (fun j K=>X _ f6J) (fun j K=>i _) (x5i Q p)
 obtain⟨f,z⟩:∃f,f=w.drew.setCells b (p+1) (us.drop p):=⟨_,rfl⟩
 have a:∀k,k<cap->(f.cell? ⟨b,k,none⟩).isSome=true:=fun k G=>by
  obtain⟨o,D,Z⟩:=x1p b (us.drop p) (p+1) w.drew P _ _ C f6J
  have R:o.size=cap:=p7i
  rw[z];simp[World.cell?,D];omega
 have M:∀(W:World),(∀x,W.cell? x=f.cell? x)->(∀x,W.frozen? x=f.frozen? x)->∀N B,(Builtin.copy_ #[40,40] N #[.slice (some ⟨b,p,none⟩) (n+1-p) B,.slice (some ⟨g,0,none⟩) 1 1]).run prog W=.ok (goInt 1) (W.setCells b p [.int .i32 c]):=fun W t L N B =>
  run_copy_cells W _ _ N 21 b p (n+1-p) B ⟨g,0,none⟩ 1 1 [.int .i32 c] underlying40 x3n (by simp only[Nat.min_def,List.length_singleton];exact G7p)
   (fun j v K=>by
    rw[addr_add,t,z,World.cell?_setCells_out b _ _ _ _ (fun h _=>absurd h F)];have:j=0:=N7z;subst this;simp at K;subst K;show w.cell? ⟨g,0+0,none⟩=_
    simp[World.cell?,hg])
   (fun j K=>by rw[t];simp at K;subst K;exact a _ f6J) (fun j K=>by rw[L,z,World.frozen?_setCells];exact i _) (x0J .i32 c)
 rw[<- z]at H ⊢;have ai:¬((p:Int)=(n:Int)):=f6J;have ab:¬(cap=p+1):=f6J;have ae:¬(cap=p):=f6J;have mixed:prog.follows Departure.mixedOrders=true:=f4y;have ag:IntKind.i64.wrap ((p:Int)+1)=(p:Int)+1:=s7C;have E:(0:Int)<=(p:Int)+1:=f6J;have af:p<=n:=f6J;have l:((p:Int)+1).toNat=p+1:=f6J;have U:(p:Int)<=(n:Int)+1:=f6J;clear z a s i X T A d Q C hg I;go_enter func203,ntmps203;go_wp2_with(simp only[J]);go_region_law_o (refine x3D rfl _ _ 40 40 rfl _ _ m5r m5r (H _ _ _) ?_);go_wp2_with(at_builtin;refine wpList_copy_runQ _ rfl _ _ 40 40 rfl _ _ rfl rfl (M _ (fun _=>rfl) (fun _=>rfl) _ _) ?_);go_ret;exact⟨rfl,rfl⟩
theorem y8r(a b l:List Value)(o:Nat)(h:a.length=o):laid (a++b) o l=a++l++b.drop l.length:=by
 subst h;unfold laid;rw[List.take_left,List.drop_append,List.drop_eq_nil_of_le f6J,Nat.add_sub_cancel_left,List.nil_append]
theorem y7Y{us:List Value}{p k:Nat}{u z:Value}(A:p<us.length) :
  ((laid (laid (us.take p++List.replicate (us.length+1-p) z++List.replicate k z) p [u]) (p+1) (us.drop p)).take (us.length+1))=us.take p++u::us.drop p:=by
 have S:(us.take p).length=p:=(by grind);rw[List.append_assoc,y8r _ _ _ p S,y8r _ _ _ (p+1) P8P];rw[(M7N:us.take p++[u]++us.drop p=us.take p++u::us.drop p)];rw[List.take_append_of_le_length P8P,List.take_of_length_le P8P]
theorem y1r(n:Nat):(Builtin.zeroCells (Value.int .i32 0).cells n).toList=List.replicate n (.int .i32 0):=by
 refine List.ext_getElem (by simp[Builtin.zeroCells,Value.cells]) fun i D Z=>?_;simp[Builtin.zeroCells,Value.cells,Nat.mod_one]
theorem y2b(b n cap p g:Nat)(P:Array Value)(us:List Value)(c:Int)(w:World)(hp:p<n)(aJ:n<=cap)(aB:cap<n+1)(a:n<=1000000)
  (hb:w.heap[b]?=some (.cells P 21 (0,0))) (aK:P.size=cap) (d:P.toList.take n=us) (Q:∀u∈us,u.oneCell'=true)
  (Y:w.heap[g]?=some (.cells #[.int .i32 c] 21 (0,0))) :
  Calls prog 203 #[.slice (some ⟨b,0,none⟩) n cap,.int .i64 p,.slice (some ⟨g,0,none⟩) 1 1] w fun e w'=>∃(G:Nat) (L:Array Value),n+1<=G/\G<=maxLen/\L.size=G /\
   L.toList=us.take p++List.replicate (n+1-p) (.int .i32 0)++List.replicate (G-(n+1)) (.int .i32 0) /\
   e=.returned (.slice (some ⟨w.heap.size,0,none⟩) (n+1) G)/\w'=(((w.alloc (.cells L 21)).drew.setCells w.heap.size p [.int .i32 c]).drew).setCells w.heap.size (p+1) (us.drop p):=by
 obtain⟨r,S,i,k,C⟩:=x3K;have az:cap=n:=f6J;subst az;have aq:us.length=cap:=(by rw[<- d,List.length_take];exact P8P);have am:(us.drop p).length=cap-p:=by rw[List.length_drop,aq]
 have s:∀j u,us[j]?=some u->w.cell? ⟨b,j,none⟩=some u:=fun j u K=>by
  rw[<- d,List.getElem?_take]at K;split at K
  ·simp[World.cell?,hb];simpa using K
  ·cases K
 have D:b<w.heap.size:=(Array.getElem?_eq_some_iff.1 hb).1;have aA:g<w.heap.size:=(Array.getElem?_eq_some_iff.1 Y).1;have T:(cap:Int)+1-(p:Int)=((cap+1-p:Nat):Int):=f6J;have H:p+(cap+1-p)=cap+1:=f6J
 have hold:(Builtin.firstCells r.size p (.slice (some ⟨b,0,none⟩) p cap)).run prog w.drew=.ok (us.take p).toArray w.drew:=by
  rw[k]
  exact run_firstCells_some w.drew 1 p ⟨b,0,none⟩ p cap (us.take p) U3t (fun j v K=>by
   rw[addr_add,Nat.zero_add];rw[List.getElem?_take]at K;split at K
   ·exact s j v K
   ·cases K)
 have af:∀N,(Builtin.append_ #[40,3] N #[.slice (some ⟨b,0,none⟩) p cap,.int .i64 ((cap:Int)+1-(p:Int))]).run prog w =
   .ok (.slice (some ⟨w.heap.size,0,none⟩) (cap+1) (grownCap w (cap+1) cap 21)) (w.drew.alloc (.cells ((us.take p).toArray++Builtin.zeroCells (Value.int .i32 0).cells (cap+1-p)++Builtin.zeroCells (Value.int .i32 0).cells (grownCap w (cap+1) cap 21-(cap+1))) 21)):=fun N=>by
  have h:=Lib.run_append_grow_zeros w 40 3 N 21 r _ .i64 .i64 underlying40 underlying3 S i (some ⟨b,0,none⟩) p cap (us.take p) hold (cap+1-p) f6J f6J f6J f6J (by rw[C];exact f6J) (by rw[C,H];exact growslice_fits f6J f6J);rw[H]at h;rw[T];exact h
 obtain⟨G,m⟩:∃G,G=grownCap w (cap+1) cap 21:=⟨_,rfl⟩;obtain⟨L,A⟩:∃L:Array Value,L=(us.take p).toArray++Builtin.zeroCells (Value.int .i32 0).cells (cap+1-p)++Builtin.zeroCells (Value.int .i32 0).cells (G-(cap+1)):=⟨_,rfl⟩;rw[<- m,<- A]at af;have aw:cap+1<=G:=(by rw[m];exact grownCap_ge w _ _ _);have J:G<=maxLen:=(by rw[m];exact grownCap_le_maxLen w (cap+1) cap 21 T7X);have aC:G<=9223372036854775807:=by unfold maxLen at J;exact f6J
 have U:L.toList=us.take p++List.replicate (cap+1-p) (.int .i32 0)++List.replicate (G-(cap+1)) (.int .i32 0):=by
  rw[A];rw[Array.toList_append,Array.toList_append,y1r,y1r]
 have ag:L.size=G:=by
  have:=congrArg List.length U;simp at this;omega
 obtain⟨f,z⟩:∃f,f=w.drew.alloc (.cells L 21):=⟨_,rfl⟩;rw[<- z]at af
 have y:∀j,j<cap+1->(f.cell? ⟨w.heap.size,j,none⟩).isSome=true:=fun j K=>by
  rw[z,World.cell?_alloc_at (w:=w.drew) L _ w.heap.size j rfl,Array.getElem?_eq_getElem f6J];rfl
 have ab:∀j,f.frozen? ⟨w.heap.size,j,none⟩=false:=fun j=>(by rw[z];exact World.frozen?_alloc_at (w:=w.drew) L _ w.heap.size j rfl);have E:∀j v,w.cell? ⟨b,j,none⟩=some v->f.cell? ⟨b,j,none⟩=some v:=fun j v h=>(by rw[z,World.cell?_alloc_past (w:=w.drew) _ b j D];exact h);have F:f.cell? ⟨g,0,none⟩=some (.int .i32 c):=by rw[z,World.cell?_alloc_past (w:=w.drew) _ g 0 aA];show w.cell? ⟨g,0,none⟩=_;simp[World.cell?,Y]
 have ai:∀(W:World),(∀x,W.cell? x=f.cell? x)->(∀x,W.frozen? x=f.frozen? x)->∀N B,(Builtin.copy_ #[40,40] N #[.slice (some ⟨w.heap.size,p,none⟩) (cap+1-p) B,.slice (some ⟨g,0,none⟩) 1 1]).run prog W=.ok (goInt 1) (W.setCells w.heap.size p [.int .i32 c]):=fun W t ae N B =>
  run_copy_cells W _ _ N 21 w.heap.size p (cap+1-p) B ⟨g,0,none⟩ 1 1 [.int .i32 c] underlying40 x3n (by simp only[Nat.min_def,List.length_singleton];split<;>omega)
   (fun j v K=>by
    have:j=0:=N7z;subst this;simp at K;subst K
    rw[addr_add,t];exact F)
   (fun j K=>by rw[t];simp at K;subst K;exact y _ f6J) (fun j K=>by rw[ae];exact ab _) (x0J .i32 c)
 have ay:b≠w.heap.size:=f6J
 have aj:∀(W:World),(∀x,W.cell? x=(f.setCells w.heap.size p [.int .i32 c]).cell? x)->(∀x,W.frozen? x=(f.setCells w.heap.size p [.int .i32 c]).frozen? x)->∀N B sc,(Builtin.copy_ #[40,40] N #[.slice (some ⟨w.heap.size,p+1,none⟩) (cap-p) B,.slice (some ⟨b,p,none⟩) (cap-p) sc]).run prog W=.ok (goInt (us.drop p).length) (W.setCells w.heap.size (p+1) (us.drop p)):=fun W t ae N B sc =>
  run_copy_cells W _ _ N 21 w.heap.size (p+1) (cap-p) B ⟨b,p,none⟩ (cap-p) sc (us.drop p) underlying40 x3n (by rw[am];simp only[Nat.min_def];split<;>omega)
   (fun j v K=>by
    rw[addr_add,t,World.cell?_setCells_out _ _ _ _ _ (fun h _=>absurd h ay)]
    exact E _ v (s (p+j) v E0S))
   (fun j K=>by
    rw[t];obtain⟨o,h1,Z⟩:=x1p w.heap.size [.int .i32 c] p f L 21 (0,0) (by rw[z];exact heap_alloc_new w.drew _) P8P
    have h3:o.size=G:=by
     have:=congrArg List.length Z;simp[laid]at this;omega
    simp[World.cell?,h1];omega)
   (fun j K=>by rw[ae,World.frozen?_setCells];exact ab _) (x5i Q p)
 subst z;have ar:∀x,((w.alloc (.cells L 21)).drew).cell? x=(w.drew.alloc (.cells L 21)).cell? x:=fun x=>rfl;have M:∀x,((w.alloc (.cells L 21)).drew).frozen? x=(w.drew.alloc (.cells L 21)).frozen? x:=fun x=>rfl;have I:∀x,(((w.alloc (.cells L 21)).drew.setCells w.heap.size p [.int .i32 c]).drew).cell? x=((w.drew.alloc (.cells L 21)).setCells w.heap.size p [.int .i32 c]).cell? x:=fun x=>rfl;have l:∀x,(((w.alloc (.cells L 21)).drew.setCells w.heap.size p [.int .i32 c]).drew).frozen? x=((w.drew.alloc (.cells L 21)).setCells w.heap.size p [.int .i32 c]).frozen? x:=fun x=>rfl;have mixed:prog.follows Departure.mixedOrders=true:=f4A;have aN:¬((p:Int)=(cap:Int)):=f6J;have aM:IntKind.i64.wrap ((p:Int)+1)=(p:Int)+1:=s7D;have aF:(0:Int)<=(p:Int)+1:=f6J;have aI:p<=cap:=f6J;have aL:((p:Int)+1).toNat=p+1:=f6J;have aG:(p:Int)<=(cap:Int):=f6J;have X:¬(G=p):=f6J;have aD:¬(G=p+1):=f6J;have aH:¬(cap=p):=f6J
 have HP:Hid (∀(e:Ending) (w':World),e=.returned (.slice (some ⟨w.heap.size,0,none⟩) (cap+1) G)->w'=(((w.alloc (.cells L 21)).drew.setCells w.heap.size p [.int .i32 c]).drew).setCells w.heap.size (p+1) (us.drop p)->∃(G:Nat) (L:Array Value),cap+1<=G/\G<=maxLen/\L.size=G /\
   L.toList=us.take p++List.replicate (cap+1-p) (.int .i32 0)++List.replicate (G-(cap+1)) (.int .i32 0) /\
   e=.returned (.slice (some ⟨w.heap.size,0,none⟩) (cap+1) G)/\w'=(((w.alloc (.cells L 21)).drew.setCells w.heap.size p [.int .i32 c]).drew).setCells w.heap.size (p+1) (us.drop p)) :=
  fun e w' q hw=>⟨G,L,aw,J,ag,U,q,hw⟩
 clear T H hold A m U ag y ab E F s aq am d Q hb Y J;refine Calls.mono (R:=fun e w'=>e=.returned (.slice (some ⟨w.heap.size,0,none⟩) (cap+1) G)/\w'=(((w.alloc (.cells L 21)).drew.setCells w.heap.size p [.int .i32 c]).drew).setCells w.heap.size (p+1) (us.drop p)) ?_ (fun e w' h=>V HP e w' h.1 h.2);go_enter func203,ntmps203
 go_wp2_with(first
  | (at_builtin;refine Lib.wpList_append_run _ rfl _ _ _ _ rfl _ _ rfl rfl _ _ (af _) ?_)
  | (at_builtin;refine wpList_copy_runQ _ rfl _ _ 40 40 rfl _ _ rfl rfl (ai _ ar M _ _) ?_))
 go_region_law_o (refine x3D rfl _ _ 40 40 rfl (.slice (some ⟨w.heap.size,p+1,none⟩) (cap-p) (G-(p+1))) (.slice (some ⟨b,p,none⟩) (cap-p) (cap-p)) m5r m5r (aj _ I l 3 (G-(p+1)) (cap-p)) ?_);go_wp2;go_ret;exact⟨rfl,rfl⟩
theorem y4U(B:Nat)(v:Value)(xs:List Int)(p:Nat)(c:Int)(w:World)(g:Nat)(N:Ok .i32 21 w B v xs)(A:p<=xs.length)(S:xs.length<=1000000)(l:B<=w.heap.size)
  (Y:w.heap[g]?=some (.cells #[.int .i32 c] 21 (0,0))) (F:v.ownBlock≠some g) (y:-2147483648<=c/\c<=2147483647) :
  Calls prog 203 #[v,.int .i64 p,.slice (some ⟨g,0,none⟩) 1 1] w (x3F B v w (Pu.ins xs p c)):=by
 rcases Nat.lt_or_ge p xs.length with H | hge
 ·have a:=N.row;rcases a.2 with⟨_,T⟩ | ⟨b,M,P,K,C,t,hn,m,I,s⟩
  ·omega
  ·have Q:∀u∈xs.map (Value.int .i32),u.oneCell'=true:=x0R .i32 xs;rw[Nat.mul_one]at I s;subst K;have W:g≠b:=fun h=>F (by rw[h];rfl);have d:(xs.map (Value.int .i32)).length=xs.length:=M7N;rcases Nat.lt_or_ge xs.length M with hr | hr
   ·refine(y0r b xs.length M p g P (xs.map (Value.int .i32)) c w H f6J M7Q W t I s Q Y).mono ?_;rintro e w' ⟨rfl,rfl⟩;obtain⟨o,D,Z⟩:=x1p b ((xs.map (Value.int .i32)).drop p) (p+1) w.drew P 21 (0,0) t P8P
    have ab:o.size=M:=p7i
    obtain⟨j,R,r⟩:=x1p b [.int .i32 c] p _ o 21 (0,0) D P8P
    have E:j.size=M:=g2S
    refine⟨_,rfl,Ok.of (N.1.ins y p) m8M (n:=xs.length+1) (us:=(Pu.ins xs p c).map (Value.int .i32)) ⟨by simp[x2v],.inr ⟨b,M,j,rfl,C,R,f6J,m,f6J,?_⟩⟩ (by rw[x2v]) rfl,?_,?_⟩
    ·rw[Nat.mul_one,r,Z,y8i]
     obtain⟨x,rest,J⟩:∃x rest,P.toList=xs.map (Value.int .i32)++x::rest:=by
      have hd:P.toList=P.toList.take xs.length++P.toList.drop xs.length:=(List.take_append_drop _ _).symm;rw[s]at hd
      cases hq:P.toList.drop xs.length with
      | nil=>grind
      | cons x rest=>exact⟨x,rest,by rw[hd,hq]⟩
     rw[J];have:=y5M (us:=xs.map (Value.int .i32)) (p:=p) (u:=.int .i32 c) (x:=x) (rest:=rest) (by simpa using H);rw[d]at this;exact this
    ·exact x7U (x7U (x1M (x1N w _)) _ _) _ _
    ·intro k hk;exact .inl hk
   ·refine(y2b b xs.length M p g P (xs.map (Value.int .i32)) c w H hn f6J S t I s Q Y).mono ?_;rintro e w' ⟨G,L,i,f,ae,U,rfl,rfl⟩;have X:((w.alloc (.cells L 21)).drew).heap[w.heap.size]?=some (.cells L 21 (0,0)):=heap_alloc_new w _;obtain⟨o,D,Z⟩:=x1p w.heap.size [.int .i32 c] p (w.alloc (.cells L 21)).drew L 21 (0,0) X P8P
    have ab:o.size=G:=p7i
    obtain⟨j,R,r⟩:=x1p w.heap.size ((xs.map (Value.int .i32)).drop p) (p+1) (((w.alloc (.cells L 21)).drew.setCells w.heap.size p [.int .i32 c]).drew) o 21 (0,0) D P8P
    have E:j.size=G:=g2S
    refine⟨_,rfl,Ok.of (N.1.ins y p) m8M (n:=xs.length+1) (us:=(Pu.ins xs p c).map (Value.int .i32)) ⟨by simp[x2v],.inr ⟨w.heap.size,G,j,rfl,l,R,f6J,f,f6J,?_⟩⟩ (by rw[x2v]) rfl,?_,?_⟩
    ·rw[Nat.mul_one,r,Z,U,y8i];have:=y7Y (us:=xs.map (Value.int .i32)) (p:=p) (k:=G-(xs.length+1)) (u:=.int .i32 c) (z:=.int .i32 0) (by simpa using H);rw[d]at this;exact this
    ·exact x3w (x1M (x3w (x1M (x3J (x1N w _) _)) (l0r _) _ _)) (l0r _) _ _
    ·intro k hk;have:k=w.heap.size:=(by simpa[Value.ownBlock]using hk.symm);exact e5w
 ·have q:p=xs.length:=f6J;subst q;exact y4V B v xs c w g N S l Y y
namespace Pu
theorem y9r(bias:Int)(zs:List Int)(k v w:Int):(rdN bias zs k v w).1=0->(rdN bias zs k v w).2.2.length<zs.length:=by
 induction zs generalizing k v w with
 | nil=>intro h;simp[rdN]at h
 | cons z r ih =>
  intro h;rw[rdN]at h ⊢;split
  ·grind
  ·grind
theorem x8i(f g:Nat)(zs:List Int)(s:St)(z:zs.length<=f)(Y:zs.length<=g):x4S f zs s=x4S g zs s:=by
 induction f generalizing g zs s with
 | zero =>
  have T:zs=[]:=List.eq_nil_of_length_eq_zero f6J;subst T
  cases g with
  | zero=>rfl
  | succ g=>rfl
 | succ f ih =>
  cases g with
  | zero=>grind
  | succ g =>
   rw[x4S,x4S];by_cases T:zs=[]
   ·rw[if_pos T,if_pos T]
   ·rw[if_neg T,if_neg T];by_cases D:(rdN s.bias zs 1 0 1).1≠0
    ·rw[if_pos D,if_pos D]
    ·rw[if_neg D,if_neg D];have S:=y9r s.bias zs 1 0 1 e2V;rw[ih g _ _ f6J f6J]
def rdW(zs:List Int)(s:St):List Int×Int:=x4S zs.length zs s
def after(s:St)(q:Int×Int×List Int):List Int×Int :=
 if q.1≠0 then([],q.1)else if 2147483647<q.2.1 then([],113)else if ¬Utf.okc (stepN s q.2.1)then([],31)else rdW q.2.2 (step s q.2.1)
theorem y9s(s:St):rdW [] s=(s.xs,0):=rfl
theorem y9t{zs:List Int}(h:zs≠[])(s:St):rdW zs s=after s (rdN s.bias zs 1 0 1):=by
 unfold rdW after
 cases hl:zs.length with
 | zero=>grind
 | succ f =>
  rw[x4S,if_neg h];by_cases D:(rdN s.bias zs 1 0 1).1≠0
  ·rw[if_pos D,if_pos D]
  ·rw[if_neg D,if_neg D];have J:=y9r s.bias zs 1 0 1 e2V;by_cases Z:2147483647<(rdN s.bias zs 1 0 1).2.1
   ·rw[if_pos Z,if_pos Z]
   ·rw[if_neg Z,if_neg Z];by_cases R:¬Utf.okc (stepN s (rdN s.bias zs 1 0 1).2.1)
    ·rw[if_pos R,if_pos R]
    ·rw[if_neg R,if_neg R];exact x8i _ _ _ _ f6J (l0r _)
theorem y7h(zs:List Int):decode zs=if 65536<zs.length then([],2)else if basicB zs=false then([],111)else rdW (tail zs) (begin (zs.take (x4K zs 0 0))):=by
 unfold decode;split
 ·rfl
 ·split
  ·rfl
  ·refine x8i _ _ _ _ ?_ (l0r _);unfold tail;split
   ·exact l0r _
   ·rw[List.length_drop];omega
theorem x3X{s:St}{e:Int}{v:Int}{r:List Int}(h:e≠0):after s (e,v,r)=([],e):=by unfold after;rw[if_pos h]
theorem y4b{s:St}{v:Int}{r:List Int}(h:2147483647<v):after s (0,v,r)=([],113):=by unfold after;rw[if_neg M7K,if_pos h]
theorem x9M{s:St}{v:Int}{r:List Int}(h:¬2147483647<v)(Z:¬Utf.okc (stepN s v)):after s (0,v,r)=([],31):=by unfold after;rw[if_neg M7K,if_neg h,if_pos Z]
theorem z0G{s:St}{v:Int}{r:List Int}(h:¬2147483647<v)(Z:Utf.okc (stepN s v)):after s (0,v,r)=rdW r (step s v):=by unfold after;rw[if_neg M7K,if_neg h,if_neg (not_not_intro Z)]
theorem z5R(bias k v w:Int):rdN bias [] k v w=(112,0,[]):=rfl
theorem y2r{bias z k v w:Int}{r:List Int}(h:dig z<0):rdN bias (z::r) k v w=(110,0,[]):=by rw[rdN,if_pos h]
theorem x9t{bias z k v w:Int}{r:List Int}(h:¬dig z<0)(Z:dig z<thr k bias):rdN bias (z::r) k v w=(0,v+dig z*w,r):=by rw[rdN,if_neg h,if_pos Z]
theorem x9u{bias z k v w:Int}{r:List Int}(h:¬dig z<0)(Z:¬dig z<thr k bias):rdN bias (z::r) k v w =
  rdN bias r (k+1) (v+dig z*w) (if 2147483648<w*(36-thr k bias)then 2147483648 else w*(36-thr k bias)):=by rw[rdN,if_neg h,if_neg Z]
end Pu
