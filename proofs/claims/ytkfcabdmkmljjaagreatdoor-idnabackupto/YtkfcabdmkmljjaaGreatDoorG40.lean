/- Lemmas. -/
import Derived.Test.YtkfcabdmkmljjaaGreatDoorG39
import Derived.WalkKit
import Derived.Lib.Walk
import Derived.Lib.SliceRun
import Derived.Lib.AppendZerosOnto
import Derived.Lib.Overlaps
import Derived.Laws.Externs
import Derived.Deep.AppendLies
import Derived.Shelf.RegionOpenPlain
set_option maxHeartbeats 4000000
set_option maxRecDepth 100000
namespace Go.Proofs.YtkfcabdmkmljjaaGreatDoor
open Go.Proofs.Tryz
open Go.RowKit
section
variable{p:Prop}
theorem M4d(h:p:=by go_enter func63,ntmps63;go_wp2_with(at_builtin;refine wpList_append_lies _ rfl (.tmp 23) (.tmp 24) 36 rfl B 21 i (.int .i32 0) 1 4 underlying36 hi y Y m rfl e8O _ _ _ rfl Q ⟨g,0,none⟩ 1 1 [.int .i32 c] rfl rfl K (x1j .i32 _) f6J T7W f6J f6J w.heap.size rfl ?_);intro S t o Z D h3 H;have z:=O (V R S t o Z D h3);go_wp2;go_ret;exact V z):p:=h
theorem s0m(h:p:=by have:=congrArg List.length D;simp[laid]at this;omega):p:=h
theorem m5r(h:p:=by simp[Act.eval,Act.put]):p:=h
theorem U8V(h:p:=by simpa[Value.ownBlock]using G.symm):p:=h
theorem M4C(h:p:=by
 rw[<- q,List.getElem?_take]at X;split at X
 ·simp[World.cell?,Y];simpa using X
 ·cases X):p:=h
theorem t8j(h:p:=by have:=congrArg List.length H;simp[laid]at this;omega):p:=h
theorem T4l(h:p:=by rw[x2p];exact f6J):p:=h
theorem f2Q(h:p:=by simp only[Nat.min_def,List.length_singleton];split<;>omega):p:=h
theorem F7v(h:p:=by rw[z];simp only[Nat.min_def];split<;>omega):p:=h
theorem W4w(h:p:=by simpa using(List.getElem?_eq_some_iff.1 X).1):p:=h
theorem U3C(h:p:=by rw[List.length_take];exact f6J):p:=h
theorem P2T(h:p:=by rwa [List.getElem?_drop]at X):p:=h
end
def x3x(B:Nat)(v:Value)(w:World)(xs:List Int)(e:Ending)(w':World):Prop :=
 ∃v',e=.returned v'/\Ok .i32 21 w' B v' xs/\w.grownBy w' v.ownBlock/\∀g,v'.ownBlock=some g->v.ownBlock=some g\/w.heap.size<=g
theorem x3v{P ops o a}{w}{K:Act->World->Prop}{Q}{E:Prop}
  (C:o.guard=none) (d x:Operand) dT sT (i:o.op=Op.call { callee:=Callee.builtin Builtin.copy,args:=#[d,x],argTypes:=#[dT,sT] })
  v u (hd:a.eval d=v) (A:a.eval x=u) {v' w'} (hr:(Builtin.copy_ #[dT,sT] o.type #[v,u]).run P w=.ok v' w') (hK:K (a.put o.dst v') w') :
  if Region.wanted o (yielded ops a.tmps)=true then Oper.wp P o a w K Q else E:=by
 have q:Region.wanted o (yielded ops a.tmps)=true:=(by simp[Region.wanted,C]);rw[if_pos q];unfold Oper.wp;simp[execOp,i,resolve,invoke,builtin,hd,A,hr,Result.andThen];exact hK
theorem infoR:(prog.info? 21).map (fun i=>(i.zero,i.size,i.bytes))=some (some (.int .i32 0),1,4):=f4x
theorem x3C:∃i,prog.info? 21=some i/\i.zero=some (.int .i32 0)/\i.size=1/\i.bytes=4:=by
 have h:=infoR
 cases hq:prog.info? 21 with
 | none=>rw[hq]at h;simp at h
 | some i=>grind
theorem Fit.ins{xs c}(h:Fit .i32 xs)(I:-2147483648<=c/\c<=2147483647) p:Fit .i32 (Pu.ins xs p c):=by
 intro z hz;unfold Pu.ins at hz;rcases List.mem_append.1 hz with hz | hz
 ·exact h z (List.mem_of_mem_take hz)
 ·rcases List.mem_cons.1 hz with hz | hz
  ·subst hz;exact x1i I
  ·exact h z (List.mem_of_mem_drop hz)
theorem x2p xs p c:(Pu.ins xs p c).length=xs.length+1:=by unfold Pu.ins;exact P8P
theorem y9C xs p c:(Pu.ins xs p c).map (Value.int .i32)=(xs.map (Value.int .i32)).take p++.int .i32 c::(xs.map (Value.int .i32)).drop p:=by unfold Pu.ins;exact M7K
theorem z7r xs c:Pu.ins xs xs.length c=xs++[c]:=by unfold Pu.ins;exact M7K
theorem y6f B v xs c w g(N:Ok .i32 21 w B v xs)(T:xs.length<=1000000)(l:B<=w.heap.size)
  (C:w.heap[g]?=some (.cells #[.int .i32 c] 21 (0,0))) (I:-2147483648<=c/\c<=2147483647) :
  Calls prog 63 #[v,.int .i64 xs.length,.slice (some ⟨g,0,none⟩) 1 1] w (x3x B v w (Pu.ins xs xs.length c)):=by
 obtain⟨i,hi,y,Y,m⟩:=x3C;have Q:=N.row
 have K:∀j u,[Value.int .i32 c][j]?=some u->w.cell? ((⟨g,0,none⟩:Addr).add j)=some u:=by
  intro j u X;have:j=0:=(by grind);subst this;simp at X;rw[addr_add,<- X];simp[World.cell?,C]
 have R:Hid (∀S t o,o.ownsRow B 21 1 (.slice (some ⟨S,0,none⟩) (xs.length+1) t) (xs.length+1) (xs.map (Value.int .i32)++[.int .i32 c])->w.grownBy o v.ownBlock->(v.ownBlock=some S\/S=w.heap.size) ->
   x3x B v w (Pu.ins xs xs.length c) (.returned (.slice (some ⟨S,0,none⟩) (xs.length+1) t)) o):=by
  intro S t o Z D h3;refine⟨_,rfl,Ok.of (N.1.ins I _) T4l Z (by rw[x2p]) (by rw[z7r];simp),D,fun k G=>?_⟩;have:k=S:=U8V;subst this;rcases h3 with h3 | h3
  ·exact .inl h3
  ·exact e5w
 obtain⟨J,M,d,A,F⟩:=N.sk.shape;generalize xs.length=n at *;have a:=O Q;rw[d];rw[d]at Q R;rcases Nat.lt_or_ge n M with E | hge
 ·exact M4d
 ·have P:M=n:=f6J;subst P;exact M4d
theorem y3h w g b o lb cb(y:g≠b) c e(C:w.heap[g]?=some (.cells #[.int .i32 c] 21 (0,0))) cur(Y:w.heap[b]?=some (.cells cur e (0,0)))(G:cur.size≠0) :
  (callFunc 109 #[.slice (some ⟨g,0,none⟩) 1 1,.slice (some ⟨b,o,none⟩) lb cb]).run prog w=.ok (.value (.bool false)) w:=by
 rw[run_callFunc_extern func109 f4x f4x f4x (e:=Extern.SlicesOverlaps.overlaps #[36,36] #[4]) f4x,
  Lib.run_overlaps_apart w 36 4 21 underlying36 1 (fun w=>f4x) ⟨g,0,none⟩ ⟨b,o,none⟩ 1 1 lb cb y 21 e 1 cur.size (by simp[World.shape?,C]) (by simp[World.shape?,Y]) G (by simp[World.frozen?,C]) (by simp[World.frozen?,C])]
 rfl
theorem y6Z{us p u x rest}(s:p<us.length) :
  ((laid (laid (us++x::rest) (p+1) (us.drop p)) p [u]).take (us.length+1))=us.take p++u::us.drop p:=by
 have Z:laid (us++x::rest) (p+1) (us.drop p)=us.take p++[us.getD p undef]++us.drop p++rest:=by
  unfold laid
  have t:(us++x::rest).take (p+1)=us.take p++[us.getD p undef]:=by
   rw[List.take_append_of_le_length f6J];rw[List.take_add_one,List.getElem?_eq_getElem s,List.getD,List.getElem?_eq_getElem s];rfl
  have E:(us++x::rest).drop (p+1+(us.drop p).length)=rest:=by
   rw[List.length_drop,List.drop_append,List.drop_eq_nil_of_le f6J,(f6J:p+1+(us.length-p)-us.length=1)];rfl
  rw[t,E]
 rw[Z];unfold laid;have S:(us.take p).length=p:=(by grind);have t:(us.take p++[us.getD p undef]++us.drop p++rest).take p=us.take p:=by grind
 have E:(us.take p++[us.getD p undef]++us.drop p++rest).drop (p+[u].length)=us.drop p++rest:=by
  rw[List.append_assoc,List.drop_append,List.drop_eq_nil_of_le P8P];simp only[List.length_append,List.length_singleton,S,Nat.sub_self,List.drop_zero,List.nil_append]
 rw[t,E];rw[(M7N:us.take p++[u]++(us.drop p++rest)=(us.take p++u::us.drop p)++rest)];rw[List.take_append_of_le_length P8P,List.take_of_length_le P8P]
theorem x5u{us:List Value}(h:∀u∈us,u.oneCell'=true) p:∀u∈us.drop p,u.oneCell'=true:=fun u d=>h u (List.mem_of_mem_drop d)
theorem x3a:(prog.info? 21).map (·.size)=some 1:=by
 obtain⟨i,h,_,Z,_⟩:=x3C;rw[h];simp[Z]
theorem y1j b n cap p g cur us c w(s:p<n)(G:n+1<=cap)(ae:cap<=9223372036854775807)(y:g≠b)
  (Y:w.heap[b]?=some (.cells cur 21 (0,0))) (f:cur.size=cap) (q:cur.toList.take n=us) (A:∀u∈us,u.oneCell'=true)
  (C:w.heap[g]?=some (.cells #[.int .i32 c] 21 (0,0))) :
  Calls prog 63 #[.slice (some ⟨b,0,none⟩) n cap,.int .i64 p,.slice (some ⟨g,0,none⟩) 1 1] w fun e w' =>
   e=.returned (.slice (some ⟨b,0,none⟩) (n+1) cap)/\w'=(w.drew.setCells b (p+1) (us.drop p)).setCells b p [.int .i32 c]:=by
 have r:us.length=n:=(by grind);have z:(us.drop p).length=n-p:=(by grind);have K:∀j,j<cap->(w.cell? ⟨b,j,none⟩).isSome=true:=fun j X=>(by simp[World.cell?,Y];exact f6J);have E:∀j,w.frozen? ⟨b,j,none⟩=false:=fun j=>by simp[World.frozen?,Y]
 have ab:∀j u,us[j]?=some u->w.cell? ⟨b,j,none⟩=some u:=fun j u X=>M4C
 have L:∀lb P,(callFunc 109 #[.slice (some ⟨g,0,none⟩) 1 1,.slice (some ⟨b,p+1,none⟩) lb P]).run prog w=.ok (.value (.bool false)) w:=fun lb P=>y3h w g b (p+1) lb P y c 21 C cur Y f6J
 have B:∀d o i,(Builtin.copy_ #[36,36] d #[.slice (some ⟨b,p+1,none⟩) (n-p) o,.slice (some ⟨b,p,none⟩) (n+1-p) i]).run prog w.drew=.ok (goInt (us.drop p).length) (w.drew.setCells b (p+1) (us.drop p)):=fun d o i =>
  run_copy_cells w.drew _ _ d 21 b (p+1) (n-p) o ⟨b,p,none⟩ (n+1-p) i (us.drop p) underlying36 x3a F7v
   (fun j v X=>by rw[addr_add];exact ab (p+j) v P2T)
   (fun j X=>K _ f6J) (fun j X=>E _) (x5u A p)
 obtain⟨N,T⟩:∃N,N=w.drew.setCells b (p+1) (us.drop p):=⟨_,rfl⟩
 have R:∀k,k<cap->(N.cell? ⟨b,k,none⟩).isSome=true:=fun k hk=>by
  obtain⟨U,Z,D⟩:=x1k b (us.drop p) (p+1) w.drew cur _ _ Y f6J
  have J:U.size=cap:=s0m
  rw[T];simp[World.cell?,Z];omega
 have Q:∀(W:World),(∀x,W.cell? x=N.cell? x)->(∀x,W.frozen? x=N.frozen? x)->∀d o,(Builtin.copy_ #[36,36] d #[.slice (some ⟨b,p,none⟩) (n+1-p) o,.slice (some ⟨g,0,none⟩) 1 1]).run prog W=.ok (goInt 1) (W.setCells b p [.int .i32 c]):=fun W a I d o =>
  run_copy_cells W _ _ d 21 b p (n+1-p) o ⟨g,0,none⟩ 1 1 [.int .i32 c] underlying36 x3a f2Q
   (fun j v X=>by
    rw[addr_add,a,T,World.cell?_setCells_out b _ _ _ _ (fun h _=>absurd h y)];have:j=0:=W4w;subst this;simp at X;subst X;show w.cell? ⟨g,0+0,none⟩=_
    simp[World.cell?,C])
   (fun j X=>by rw[a];simp at X;subst X;exact R _ f6J) (fun j X=>by rw[I,T,World.frozen?_setCells];exact E _) (x1j .i32 c)
 rw[<- T]at B ⊢;have m:¬((p:Int)=(n:Int)):=f6J;have H:¬(cap=p+1):=f6J;have M:¬(cap=p):=f6J;have mixed:prog.follows Departure.mixedOrders=true:=f4y;have af:IntKind.i64.wrap ((p:Int)+1)=(p:Int)+1:=s7C;have F:(0:Int)<=(p:Int)+1:=f6J;have l:p<=n:=f6J;have S:((p:Int)+1).toNat=p+1:=f6J;have t:(p:Int)<=(n:Int)+1:=f6J;clear T R ab E K r z q A Y C f;go_enter func63,ntmps63;go_wp2_with(simp only[L]);go_region_law_o (refine x3v rfl _ _ 36 36 rfl _ _ m5r m5r (B _ _ _) ?_);go_wp2_with(at_builtin;refine wpList_copy_runQ _ rfl _ _ 36 36 rfl _ _ rfl rfl (Q _ (fun _=>rfl) (fun _=>rfl) _ _) ?_);go_ret;exact⟨rfl,rfl⟩
theorem y9M a b vs o(h:a.length=o):laid (a++b) o vs=a++vs++b.drop vs.length:=by
 subst h;unfold laid;rw[List.take_left,List.drop_append,List.drop_eq_nil_of_le f6J,Nat.add_sub_cancel_left,List.nil_append]
theorem y9p{us:List Value}{p k u z}(s:p<us.length) :
  ((laid (laid (us.take p++List.replicate (us.length+1-p) z++List.replicate k z) p [u]) (p+1) (us.drop p)).take (us.length+1))=us.take p++u::us.drop p:=by
 have S:(us.take p).length=p:=(by grind);rw[List.append_assoc,y9M _ _ _ p S,y9M _ _ _ (p+1) P8P];rw[(M7N:us.take p++[u]++us.drop p=us.take p++u::us.drop p)];rw[List.take_append_of_le_length P8P,List.take_of_length_le P8P]
theorem y2j n:(Builtin.zeroCells (Value.int .i32 0).cells n).toList=List.replicate n (.int .i32 0):=by
 refine List.ext_getElem (by simp[Builtin.zeroCells,Value.cells]) fun i Z D=>?_;simp[Builtin.zeroCells,Value.cells,Nat.mod_one]
theorem y2V b n cap p g cur us c w(hp:p<n)(aG:n<=cap)(az:cap<n+1)(aC:n<=1000000)
  (Y:w.heap[b]?=some (.cells cur 21 (0,0))) (aH:cur.size=cap) (q:cur.toList.take n=us) (A:∀u∈us,u.oneCell'=true)
  (hg:w.heap[g]?=some (.cells #[.int .i32 c] 21 (0,0))) :
  Calls prog 63 #[.slice (some ⟨b,0,none⟩) n cap,.int .i64 p,.slice (some ⟨g,0,none⟩) 1 1] w fun e w'=>∃(G:Nat) (L:Array Value),n+1<=G/\G<=maxLen/\L.size=G /\
   L.toList=us.take p++List.replicate (n+1-p) (.int .i32 0)++List.replicate (G-(n+1)) (.int .i32 0) /\
   e=.returned (.slice (some ⟨w.heap.size,0,none⟩) (n+1) G)/\w'=(((w.alloc (.cells L 21)).drew.setCells w.heap.size p [.int .i32 c]).drew).setCells w.heap.size (p+1) (us.drop p):=by
 obtain⟨i0,ay,y,k,ag⟩:=x3C;have Q:cap=n:=f6J;subst Q;have r:us.length=cap:=(by rw[<- q,List.length_take];exact P8P);have z:(us.drop p).length=cap-p:=by rw[List.length_drop,r]
 have ae:∀j u,us[j]?=some u->w.cell? ⟨b,j,none⟩=some u:=fun j u X=>M4C
 have aw:b<w.heap.size:=(Array.getElem?_eq_some_iff.1 Y).1;have s:g<w.heap.size:=(Array.getElem?_eq_some_iff.1 hg).1;have H:(cap:Int)+1-(p:Int)=((cap+1-p:Nat):Int):=f6J;have S:p+(cap+1-p)=cap+1:=f6J
 have hold:(Builtin.firstCells i0.size p (.slice (some ⟨b,0,none⟩) p cap)).run prog w.drew=.ok (us.take p).toArray w.drew:=by
  rw[k]
  exact run_firstCells_some w.drew 1 p ⟨b,0,none⟩ p cap (us.take p) U3C (fun j v X=>by
   rw[addr_add,Nat.zero_add];rw[List.getElem?_take]at X;split at X
   ·exact ae j v X
   ·cases X)
 have f:∀d,(Builtin.append_ #[36,3] d #[.slice (some ⟨b,0,none⟩) p cap,.int .i64 ((cap:Int)+1-(p:Int))]).run prog w =
   .ok (.slice (some ⟨w.heap.size,0,none⟩) (cap+1) (grownCap w (cap+1) cap 21)) (w.drew.alloc (.cells ((us.take p).toArray++Builtin.zeroCells (Value.int .i32 0).cells (cap+1-p)++Builtin.zeroCells (Value.int .i32 0).cells (grownCap w (cap+1) cap 21-(cap+1))) 21)):=fun d=>by
  have h:=Lib.run_append_grow_zeros w 36 3 d 21 i0 _ .i64 .i64 underlying36 underlying3 ay y (some ⟨b,0,none⟩) p cap (us.take p) hold (cap+1-p) f6J f6J f6J f6J (by rw[ag];exact f6J) (by rw[ag,S];exact growslice_fits f6J f6J);rw[S]at h;rw[H];exact h
 obtain⟨G,hG⟩:∃G,G=grownCap w (cap+1) cap 21:=⟨_,rfl⟩;obtain⟨L,C⟩:∃L:Array Value,L=(us.take p).toArray++Builtin.zeroCells (Value.int .i32 0).cells (cap+1-p)++Builtin.zeroCells (Value.int .i32 0).cells (G-(cap+1)):=⟨_,rfl⟩;rw[<- hG,<- C]at f;have ar:cap+1<=G:=(by rw[hG];exact grownCap_ge w _ _ _);have B:G<=maxLen:=(by rw[hG];exact grownCap_le_maxLen w (cap+1) cap 21 T7X);have aA:G<=9223372036854775807:=by unfold maxLen at B;exact f6J
 have ab:L.toList=us.take p++List.replicate (cap+1-p) (.int .i32 0)++List.replicate (G-(cap+1)) (.int .i32 0):=by
  rw[C];rw[Array.toList_append,Array.toList_append,y2j,y2j]
 have m:L.size=G:=by
  have:=congrArg List.length ab;simp at this;omega
 obtain⟨N,T⟩:∃N,N=w.drew.alloc (.cells L 21):=⟨_,rfl⟩;rw[<- T]at f
 have hN:∀j,j<cap+1->(N.cell? ⟨w.heap.size,j,none⟩).isSome=true:=fun j X=>by
  rw[T,World.cell?_alloc_at (w:=w.drew) L _ w.heap.size j rfl,Array.getElem?_eq_getElem f6J];rfl
 have E:∀j,N.frozen? ⟨w.heap.size,j,none⟩=false:=fun j=>(by rw[T];exact World.frozen?_alloc_at (w:=w.drew) L _ w.heap.size j rfl);have J:∀j v,w.cell? ⟨b,j,none⟩=some v->N.cell? ⟨b,j,none⟩=some v:=fun j v h=>(by rw[T,World.cell?_alloc_past (w:=w.drew) _ b j aw];exact h);have K:N.cell? ⟨g,0,none⟩=some (.int .i32 c):=by rw[T,World.cell?_alloc_past (w:=w.drew) _ g 0 s];show w.cell? ⟨g,0,none⟩=_;simp[World.cell?,hg]
 have af:∀(W:World),(∀x,W.cell? x=N.cell? x)->(∀x,W.frozen? x=N.frozen? x)->∀d o,(Builtin.copy_ #[36,36] d #[.slice (some ⟨w.heap.size,p,none⟩) (cap+1-p) o,.slice (some ⟨g,0,none⟩) 1 1]).run prog W=.ok (goInt 1) (W.setCells w.heap.size p [.int .i32 c]):=fun W a I d o =>
  run_copy_cells W _ _ d 21 w.heap.size p (cap+1-p) o ⟨g,0,none⟩ 1 1 [.int .i32 c] underlying36 x3a f2Q
   (fun j v X=>by
    have:j=0:=W4w;subst this;simp at X;subst X
    rw[addr_add,a];exact K)
   (fun j X=>by rw[a];simp at X;subst X;exact hN _ f6J) (fun j X=>by rw[I];exact E _) (x1j .i32 c)
 have P:b≠w.heap.size:=f6J
 have M:∀(W:World),(∀x,W.cell? x=(N.setCells w.heap.size p [.int .i32 c]).cell? x)->(∀x,W.frozen? x=(N.setCells w.heap.size p [.int .i32 c]).frozen? x)->∀d o i,(Builtin.copy_ #[36,36] d #[.slice (some ⟨w.heap.size,p+1,none⟩) (cap-p) o,.slice (some ⟨b,p,none⟩) (cap-p) i]).run prog W=.ok (goInt (us.drop p).length) (W.setCells w.heap.size (p+1) (us.drop p)):=fun W a I d o i =>
  run_copy_cells W _ _ d 21 w.heap.size (p+1) (cap-p) o ⟨b,p,none⟩ (cap-p) i (us.drop p) underlying36 x3a F7v
   (fun j v X=>by
    rw[addr_add,a,World.cell?_setCells_out _ _ _ _ _ (fun h _=>absurd h P)]
    exact J _ v (ae (p+j) v P2T))
   (fun j X=>by
    rw[a];obtain⟨U,Z,D⟩:=x1k w.heap.size [.int .i32 c] p N L 21 (0,0) (by rw[T];exact heap_alloc_new w.drew _) P8P
    have h3:U.size=G:=by
     have:=congrArg List.length D;simp[laid]at this;omega
    simp[World.cell?,Z];omega)
   (fun j X=>by rw[I,World.frozen?_setCells];exact E _) (x5u A p)
 subst T;have ai:∀x,((w.alloc (.cells L 21)).drew).cell? x=(w.drew.alloc (.cells L 21)).cell? x:=fun x=>rfl;have aj:∀x,((w.alloc (.cells L 21)).drew).frozen? x=(w.drew.alloc (.cells L 21)).frozen? x:=fun x=>rfl;have am:∀x,(((w.alloc (.cells L 21)).drew.setCells w.heap.size p [.int .i32 c]).drew).cell? x=((w.drew.alloc (.cells L 21)).setCells w.heap.size p [.int .i32 c]).cell? x:=fun x=>rfl;have aq:∀x,(((w.alloc (.cells L 21)).drew.setCells w.heap.size p [.int .i32 c]).drew).frozen? x=((w.drew.alloc (.cells L 21)).setCells w.heap.size p [.int .i32 c]).frozen? x:=fun x=>rfl;have mixed:prog.follows Departure.mixedOrders=true:=f4A;have aK:¬((p:Int)=(cap:Int)):=f6J;have aJ:IntKind.i64.wrap ((p:Int)+1)=(p:Int)+1:=s7D;have F:(0:Int)<=(p:Int)+1:=f6J;have l:p<=cap:=f6J;have aI:((p:Int)+1).toNat=p+1:=f6J;have t:(p:Int)<=(cap:Int):=f6J;have aD:¬(G=p):=f6J;have aB:¬(G=p+1):=f6J;have aF:¬(cap=p):=f6J
 have HP:Hid (∀(e:Ending) (w':World),e=.returned (.slice (some ⟨w.heap.size,0,none⟩) (cap+1) G)->w'=(((w.alloc (.cells L 21)).drew.setCells w.heap.size p [.int .i32 c]).drew).setCells w.heap.size (p+1) (us.drop p)->∃(G:Nat) (L:Array Value),cap+1<=G/\G<=maxLen/\L.size=G /\
   L.toList=us.take p++List.replicate (cap+1-p) (.int .i32 0)++List.replicate (G-(cap+1)) (.int .i32 0) /\
   e=.returned (.slice (some ⟨w.heap.size,0,none⟩) (cap+1) G)/\w'=(((w.alloc (.cells L 21)).drew.setCells w.heap.size p [.int .i32 c]).drew).setCells w.heap.size (p+1) (us.drop p)) :=
  fun e w' he hw=>⟨G,L,ar,B,m,ab,he,hw⟩
 clear H S hold C hG ab m hN E J K ae r z q A Y hg B;refine Calls.mono (R:=fun e w'=>e=.returned (.slice (some ⟨w.heap.size,0,none⟩) (cap+1) G)/\w'=(((w.alloc (.cells L 21)).drew.setCells w.heap.size p [.int .i32 c]).drew).setCells w.heap.size (p+1) (us.drop p)) ?_ (fun e w' h=>V HP e w' h.1 h.2);go_enter func63,ntmps63
 go_wp2_with(first
  | (at_builtin;refine Lib.wpList_append_run _ rfl _ _ _ _ rfl _ _ rfl rfl _ _ (f _) ?_)
  | (at_builtin;refine wpList_copy_runQ _ rfl _ _ 36 36 rfl _ _ rfl rfl (af _ ai aj _ _) ?_))
 go_region_law_o (refine x3v rfl _ _ 36 36 rfl (.slice (some ⟨w.heap.size,p+1,none⟩) (cap-p) (G-(p+1))) (.slice (some ⟨b,p,none⟩) (cap-p) (cap-p)) m5r m5r (M _ am aq 3 (G-(p+1)) (cap-p)) ?_);go_wp2;go_ret;exact⟨rfl,rfl⟩
theorem y6e B v xs p c w g(N:Ok .i32 21 w B v xs)(s:p<=xs.length)(S:xs.length<=1000000)(l:B<=w.heap.size)
  (C:w.heap[g]?=some (.cells #[.int .i32 c] 21 (0,0))) (y:v.ownBlock≠some g) (I:-2147483648<=c/\c<=2147483647) :
  Calls prog 63 #[v,.int .i64 p,.slice (some ⟨g,0,none⟩) 1 1] w (x3x B v w (Pu.ins xs p c)):=by
 rcases Nat.lt_or_ge p xs.length with E | hge
 ·have Q:=N.row;rcases Q.2 with⟨_,R⟩ | ⟨b,M,P,d,Y,hh,F,W,f,U⟩
  ·omega
  ·have A:∀u∈xs.map (Value.int .i32),u.oneCell'=true:=x0R .i32 xs;rw[Nat.mul_one]at f U;subst d;have a:g≠b:=fun h=>y (by rw[h];rfl);have r:(xs.map (Value.int .i32)).length=xs.length:=M7N;rcases Nat.lt_or_ge xs.length M with hr | hr
   ·refine(y1j b xs.length M p g P (xs.map (Value.int .i32)) c w E f6J m4e a hh f U A C).mono ?_;rintro e o ⟨rfl,rfl⟩;obtain⟨X,Z,D⟩:=x1k b ((xs.map (Value.int .i32)).drop p) (p+1) w.drew P 21 (0,0) hh P8P
    have ab:X.size=M:=s0m
    obtain⟨K,J,H⟩:=x1k b [.int .i32 c] p _ X 21 (0,0) Z P8P
    have i:K.size=M:=t8j
    refine⟨_,rfl,Ok.of (N.1.ins I p) T4l (n:=xs.length+1) (us:=(Pu.ins xs p c).map (Value.int .i32)) ⟨by simp[x2p],.inr ⟨b,M,K,rfl,Y,J,f6J,W,f6J,?_⟩⟩ (by rw[x2p]) rfl,?_,?_⟩
    ·rw[Nat.mul_one,H,D,y9C]
     obtain⟨x,rest,hx⟩:∃x rest,P.toList=xs.map (Value.int .i32)++x::rest:=by
      have hd:P.toList=P.toList.take xs.length++P.toList.drop xs.length:=(List.take_append_drop _ _).symm;rw[U]at hd
      cases hq:P.toList.drop xs.length with
      | nil=>grind
      | cons x rest=>exact⟨x,rest,by rw[hd,hq]⟩
     rw[hx];have:=y6Z (us:=xs.map (Value.int .i32)) (p:=p) (u:=.int .i32 c) (x:=x) (rest:=rest) (by simpa using E);rw[r]at this;exact this
    ·exact x8B (x8B (x1I (x1g w _)) _ _) _ _
    ·intro k hk;exact .inl hk
   ·refine(y2V b xs.length M p g P (xs.map (Value.int .i32)) c w E F f6J S hh f U A C).mono ?_;rintro e o ⟨G,L,q,j,m,T,rfl,rfl⟩;have t:((w.alloc (.cells L 21)).drew).heap[w.heap.size]?=some (.cells L 21 (0,0)):=heap_alloc_new w _;obtain⟨X,Z,D⟩:=x1k w.heap.size [.int .i32 c] p (w.alloc (.cells L 21)).drew L 21 (0,0) t P8P
    have ab:X.size=G:=s0m
    obtain⟨K,J,H⟩:=x1k w.heap.size ((xs.map (Value.int .i32)).drop p) (p+1) (((w.alloc (.cells L 21)).drew.setCells w.heap.size p [.int .i32 c]).drew) X 21 (0,0) Z P8P
    have i:K.size=G:=t8j
    refine⟨_,rfl,Ok.of (N.1.ins I p) T4l (n:=xs.length+1) (us:=(Pu.ins xs p c).map (Value.int .i32)) ⟨by simp[x2p],.inr ⟨w.heap.size,G,K,rfl,l,J,f6J,j,f6J,?_⟩⟩ (by rw[x2p]) rfl,?_,?_⟩
    ·rw[Nat.mul_one,H,D,T,y9C];have:=y9p (us:=xs.map (Value.int .i32)) (p:=p) (k:=G-(xs.length+1)) (u:=.int .i32 c) (z:=.int .i32 0) (by simpa using E);rw[r]at this;exact this
    ·exact x3n (x1I (x3n (x1I (x3B (x1g w _) _)) (l0r _) _ _)) (l0r _) _ _
    ·intro k hk;have:k=w.heap.size:=(by simpa[Value.ownBlock]using hk.symm);exact e5w
 ·have he:p=xs.length:=f6J;subst he;exact y6f B v xs c w g N S l C I
namespace Pu
theorem z0P bias zs k v w:(rdN bias zs k v w).1=0->(rdN bias zs k v w).2.2.length<zs.length:=by
 induction zs generalizing k v w with
 | nil=>intro h;simp[rdN]at h
 | cons z r ih =>
  intro h;rw[rdN]at h ⊢;split
  ·grind
  ·grind
theorem x8O f g zs(s:St)(o:zs.length<=f)(C:zs.length<=g):x4Z f zs s=x4Z g zs s:=by
 induction f generalizing g zs s with
 | zero =>
  have R:zs=[]:=List.eq_nil_of_length_eq_zero f6J;subst R
  cases g with
  | zero=>rfl
  | succ g=>rfl
 | succ f ih =>
  cases g with
  | zero=>grind
  | succ g =>
   rw[x4Z,x4Z];by_cases R:zs=[]
   ·rw[if_pos R,if_pos R]
   ·rw[if_neg R,if_neg R];by_cases Z:(rdN s.bias zs 1 0 1).1≠0
    ·rw[if_pos Z,if_pos Z]
    ·rw[if_neg Z,if_neg Z];have S:=z0P s.bias zs 1 0 1 E1y;rw[ih g _ _ f6J f6J]
def rdW(zs:List Int)(s:St):List Int×Int:=x4Z zs.length zs s
def after(s:St)(q:Int×Int×List Int):List Int×Int :=
 if q.1≠0 then([],q.1)else if 2147483647<q.2.1 then([],113)else if ¬Utf.okc (stepN s q.2.1)then([],31)else rdW q.2.2 (step s q.2.1)
theorem z0Q(s:St):rdW [] s=(s.xs,0):=rfl
theorem z0R{zs}(h:zs≠[])(s:St):rdW zs s=after s (rdN s.bias zs 1 0 1):=by
 unfold rdW after
 cases hl:zs.length with
 | zero=>grind
 | succ f =>
  rw[x4Z,if_neg h];by_cases Z:(rdN s.bias zs 1 0 1).1≠0
  ·rw[if_pos Z,if_pos Z]
  ·rw[if_neg Z,if_neg Z];have x:=z0P s.bias zs 1 0 1 E1y;by_cases D:2147483647<(rdN s.bias zs 1 0 1).2.1
   ·rw[if_pos D,if_pos D]
   ·rw[if_neg D,if_neg D];by_cases J:¬Utf.okc (stepN s (rdN s.bias zs 1 0 1).2.1)
    ·rw[if_pos J,if_pos J]
    ·rw[if_neg J,if_neg J];exact x8O _ _ _ _ f6J (l0r _)
theorem y0L zs:decode zs=if 65536<zs.length then([],2)else if basicB zs=false then([],111)else rdW (tail zs) (begin (zs.take (x3D zs 0 0))):=by
 unfold decode;split
 ·rfl
 ·split
  ·rfl
  ·refine x8O _ _ _ _ ?_ (l0r _);unfold tail;split
   ·exact l0r _
   ·rw[List.length_drop];omega
theorem y0z{s:St}{e v r}(h:e≠0):after s (e,v,r)=([],e):=by unfold after;rw[if_pos h]
theorem y5k{s:St}{v r}(h:2147483647<v):after s (0,v,r)=([],113):=by unfold after;rw[if_neg M7K,if_pos h]
theorem y0y{s:St}{v r}(h:¬2147483647<v)(D:¬Utf.okc (stepN s v)):after s (0,v,r)=([],31):=by unfold after;rw[if_neg M7K,if_neg h,if_pos D]
theorem y3Q{s:St}{v r}(h:¬2147483647<v)(D:Utf.okc (stepN s v)):after s (0,v,r)=rdW r (step s v):=by unfold after;rw[if_neg M7K,if_neg h,if_neg (not_not_intro D)]
theorem z8e bias k v w:rdN bias [] k v w=(112,0,[]):=rfl
theorem z8d{bias z k v w r}(h:dig z<0):rdN bias (z::r) k v w=(110,0,[]):=by rw[rdN,if_pos h]
theorem y0c{bias z k v w r}(h:¬dig z<0)(D:dig z<thr k bias):rdN bias (z::r) k v w=(0,v+dig z*w,r):=by rw[rdN,if_neg h,if_pos D]
theorem y4V{bias z k v w r}(h:¬dig z<0)(D:¬dig z<thr k bias):rdN bias (z::r) k v w =
  rdN bias r (k+1) (v+dig z*w) (if 2147483648<w*(36-thr k bias)then 2147483648 else w*(36-thr k bias)):=by rw[rdN,if_neg h,if_neg D]
end Pu
