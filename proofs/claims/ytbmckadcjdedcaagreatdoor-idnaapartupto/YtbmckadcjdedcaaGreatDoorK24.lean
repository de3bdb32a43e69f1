/- Lemmas. -/
import Derived.Test.YtbmckadcjdedcaaGreatDoorK25
import Derived.Test.YtbmckadcjdedcaaGreatDoorK22
set_option maxHeartbeats 16000000
set_option maxRecDepth 20000
namespace Go.Proofs.YtbmckadcjdedcaaGreatDoor
open Go.Proofs.Tryz
open Go.RowKit
section
variable{p:Prop}
theorem g1c(h:p:=by rw[<- I];have J:=(U.block (w.heap.size) f6J).trans a;have u:=(U.block (w.heap.size+1) f6J).trans B;exact⟨cell_of (j:=0) u s5q,cell_of (j:=1) u G0Z,cell_of (j:=2) u V3Y,cell_of (j:=3) u e8d,cell_of (j:=4) u e2U,cell_of (j:=5) u i3Z,cell_of (j:=6) u F4N,cell_of (j:=7) u U3C,cell_of (j:=0) J T7e,cell_of (j:=1) J (by show 1<3;exact f6J),cell_of (j:=2) J U4w,U⟩):p:=h
theorem W4c(h:p:=by show((w.heap.push _).push _)[w.heap.size+1]?=_;rw[Array.getElem?_push];simp):p:=h
theorem P4x(h:p:=by(intro w hSw;obtain⟨s0,N,s2,s3,s4,s5,s6,s7,s8,s9,d,f⟩:=(congrFun I _).mpr hSw;go_simp)):p:=h
theorem g6P(h:p:=by(intro w hSw;obtain⟨H,N,s2,C,y,g,F,s7,o,s9,d,f⟩:=(congrFun I _).mpr hSw;go_simp)):p:=h
theorem P5F(h:p:=by rw[<- x];exact((b0r).alloc (l0r _) _).alloc M7M _):p:=h
end
theorem z9S l cs os cv ov(R i:Nat) lo hi nn tq nm ot wt vt w(h:Idx l w cv ov cs os)(X:Sk .i32 w vt tq)(m:¬lo<128) :
  Calls prog 84 #[xV cv ov (.map (some R)),.int .i64 (i:Int),recV (⟨6,lo,hi,nn,tq,nm,ot,wt⟩:Rec) vt] w (IntB w (if touches (⟨6,lo,hi,nn,tq,nm,ot,wt⟩:Rec)=true then 71 else 0)):=by
 obtain⟨p,Z,rfl,_,_⟩:=h.rc.shape;obtain⟨M,D,rfl,_,_⟩:=h.ro.shape;obtain⟨t,L,rfl,_,_⟩:=X.shape;obtain⟨Q,x⟩:∃Q,((w.alloc (.cells #[.slice p cs.length Z,.slice M os.length D,.map (some R)] 125)).alloc (.cells #[.int .i64 6,.int .i64 lo,.int .i64 hi,.int .i64 nn,.slice t tq.length L,.string nm,.string ot,.float .f64 wt] 67))=Q:=⟨_,rfl⟩;have A:Bw w Q:=P5F;have k:Q.heap.size=w.heap.size+2:=by rw[<- x];exact M7M
 have a:Q.heap[w.heap.size]?=some (.cells #[.slice p cs.length Z,.slice M os.length D,.map (some R)] 125 (0,0)):=by
  rw[<- x];exact n9Y
 have B:Q.heap[w.heap.size+1]?=some (.cells #[.int .i64 6,.int .i64 lo,.int .i64 hi,.int .i64 nn,.slice t tq.length L,.string nm,.string ot,.float .f64 wt] 67 (0,0)):=by
  rw[<- x];exact W4c
 have G:Hid (∀W:World,Bw Q W->Bw w W):=fun W U=>A.trans (U.mono f6J);obtain⟨v,I⟩:∃v:World->Prop,(fun W=>(W.cell? ⟨w.heap.size+1,0,none⟩=some (.int .i64 6)/\W.cell? ⟨w.heap.size+1,1,none⟩=some (.int .i64 lo)/\W.cell? ⟨w.heap.size+1,2,none⟩=some (.int .i64 hi)/\W.cell? ⟨w.heap.size+1,3,none⟩=some (.int .i64 nn)/\W.cell? ⟨w.heap.size+1,4,none⟩=some (.slice t tq.length L)/\W.cell? ⟨w.heap.size+1,5,none⟩=some (.string nm)/\W.cell? ⟨w.heap.size+1,6,none⟩=some (.string ot)/\W.cell? ⟨w.heap.size+1,7,none⟩=some (.float .f64 wt)/\W.cell? ⟨w.heap.size,0,none⟩=some (.slice p cs.length Z)/\W.cell? ⟨w.heap.size,1,none⟩=some (.slice M os.length D)/\W.cell? ⟨w.heap.size,2,none⟩=some (.map (some R))/\Hid (Bw Q W)))=v:=⟨_,rfl⟩
 have c:Hid (∀W:World,Bw Q W->v W):=fun W U=>g1c
 have KT:Hid (∀W:World,Calls prog 129 #[.agg #[.int .i64 6,.int .i64 lo,.int .i64 hi,.int .i64 nn,.slice t tq.length L,.string nm,.string ot,.float .f64 wt]] W (x0c W (touches (⟨6,lo,hi,nn,tq,nm,ot,wt⟩:Rec)))):=fun W=>x3V (⟨6,lo,hi,nn,tq,nm,ot,wt⟩:Rec) _ _ _ W;have n:Bw Q Q.drew:=x0k ⟨1,rfl⟩;have P:=O (V c _ n);have b:Hid (∀W z,Bw Q W->IntB w z (.returned (.int .i64 z)) W):=fun W z U=>⟨rfl,V G W U⟩;have r:=O (V KT Q.drew);generalize touches (⟨6,lo,hi,nn,tq,nm,ot,wt⟩:Rec)=tc at *;subst x;unfold xV recV;clear a B A h X;cases tc
 ·rw[if_neg e8P];go_enter func84,ntmps84;go_wp2;refine wp_region_held_drew (S:=fun w'=>v w') f4y (V P) (fun hHeld=>?_);refine tk9 0 (.agg #[.int .i64 6,.int .i64 lo,.int .i64 hi,.int .i64 nn,.slice t tq.length L,.string nm,.string ot,.float .f64 wt]) ?_ (hy:=g6P);refine rd9 1 fun K hK=>?_;go_simp;refine c0m r fun q E=>?_;have s:=x0b n E;have T:=O (V c q s);refine hK.out _ _ ?_ (fun hHeld=>?_)
  ·exact V T
  clear hK K
  try simp only[Act.put,sa9,sb9,sc9]
  refine tk9 2 (.bool false) ?_;refine tk9 3 (.bool false) ?_;refine tk9 4 (.bool false) ?_;refine tn9 5 ?_;refine tn9 6 ?_;refine tn9 7 ?_;refine tn9 8 ?_;refine tn9 9 ?_;refine tn9 10 ?_;refine tn9 11 ?_;refine tn9 12 ?_;refine tn9 13 ?_;refine tk9 14 (.bool false) ?_;refine tk9 15 (.bool false) ?_;refine tk9 16 (.bool false) ?_;refine wpAnyH_done f4y ?_ _;go_wp2;refine wp_region_held_drew (S:=fun _=>True) f4y trivial (fun hHeld=>?_);refine tk9 0 (.bool false) ?_;refine tk9 1 (.bool false) ?_;refine tn9 2 ?_;refine tn9 3 ?_;refine tn9 4 ?_;refine tn9 5 ?_;refine tn9 6 ?_;refine tn9 7 ?_;refine tn9 8 ?_;refine tn9 9 ?_;refine tn9 10 ?_;refine tn9 11 ?_;refine tn9 12 ?_;refine tn9 13 ?_;refine tn9 14 ?_;refine tn9 15 ?_;refine tn9 16 ?_;refine tn9 17 ?_;refine tn9 18 ?_;refine tn9 19 ?_;refine tn9 20 ?_;refine tn9 21 ?_;refine tn9 22 ?_;refine tn9 23 ?_;refine tk9 24 (.bool false) ?_;refine wpAnyH_done f4y ?_ _;have Y:=V b q.drew 0 (x0b s (x0k ⟨1,rfl⟩));clear c P b KT r T s hHeld;exact n0Q
 ·rw[if_pos rfl];go_enter func84,ntmps84;go_wp2;refine wp_region_held_drew (S:=fun w'=>v w') f4y (V P) (fun hHeld=>?_);refine tk9 0 (.agg #[.int .i64 6,.int .i64 lo,.int .i64 hi,.int .i64 nn,.slice t tq.length L,.string nm,.string ot,.float .f64 wt]) ?_ (hy:=g6P);refine rd9 1 fun K hK=>?_;go_simp;refine c0m r fun q E=>?_;have s:=x0b n E;have T:=O (V c q s);refine hK.out _ _ ?_ (fun hHeld=>?_)
  ·exact V T
  clear hK K
  try simp only[Act.put,sa9,sb9,sc9]
  refine tk9 2 (.bool true) ?_;refine tn9 3 ?_;refine tn9 4 ?_;refine tn9 5 ?_;refine tn9 6 ?_;refine tn9 7 ?_;refine tn9 8 ?_;refine tn9 9 ?_;refine tn9 10 ?_;refine tn9 11 ?_;refine tn9 12 ?_;refine tn9 13 ?_;refine tn9 14 ?_;refine tk9 15 (.bool true) ?_;refine tk9 16 (.bool true) ?_;refine wpAnyH_done f4y ?_ _;have Y:=V b q 71 s;clear c P b KT r T s hHeld;exact n0Q
theorem z9U l cs os cv ov(R i:Nat) lo hi nn tq nm ot wt vt w(hg:Glob w)(h:Idx l w cv ov cs os)(X:Sk .i32 w vt tq)(m:¬lo<128)(ab:Rune lo) :
  Calls prog 84 #[xV cv ov (.map (some R)),.int .i64 (i:Int),recV (⟨8,lo,hi,nn,tq,nm,ot,wt⟩:Rec) vt] w (IntB w (if touches (⟨8,lo,hi,nn,tq,nm,ot,wt⟩:Rec)=true then 71 else Cn.wfull l lo)):=by
 obtain⟨p,Z,rfl,_,_⟩:=h.rc.shape;obtain⟨M,D,rfl,_,_⟩:=h.ro.shape;obtain⟨t,L,rfl,_,_⟩:=X.shape;obtain⟨Q,x⟩:∃Q,((w.alloc (.cells #[.slice p cs.length Z,.slice M os.length D,.map (some R)] 125)).alloc (.cells #[.int .i64 8,.int .i64 lo,.int .i64 hi,.int .i64 nn,.slice t tq.length L,.string nm,.string ot,.float .f64 wt] 67))=Q:=⟨_,rfl⟩;have A:Bw w Q:=P5F;have k:Q.heap.size=w.heap.size+2:=by rw[<- x];exact M7M
 have a:Q.heap[w.heap.size]?=some (.cells #[.slice p cs.length Z,.slice M os.length D,.map (some R)] 125 (0,0)):=by
  rw[<- x];exact n9Y
 have B:Q.heap[w.heap.size+1]?=some (.cells #[.int .i64 8,.int .i64 lo,.int .i64 hi,.int .i64 nn,.slice t tq.length L,.string nm,.string ot,.float .f64 wt] 67 (0,0)):=by
  rw[<- x];exact W4c
 have G:Hid (∀W:World,Bw Q W->Bw w W):=fun W U=>A.trans (U.mono f6J);obtain⟨SP,I⟩:∃SP:World->Prop,(fun W=>(W.cell? ⟨w.heap.size+1,0,none⟩=some (.int .i64 8)/\W.cell? ⟨w.heap.size+1,1,none⟩=some (.int .i64 lo)/\W.cell? ⟨w.heap.size+1,2,none⟩=some (.int .i64 hi)/\W.cell? ⟨w.heap.size+1,3,none⟩=some (.int .i64 nn)/\W.cell? ⟨w.heap.size+1,4,none⟩=some (.slice t tq.length L)/\W.cell? ⟨w.heap.size+1,5,none⟩=some (.string nm)/\W.cell? ⟨w.heap.size+1,6,none⟩=some (.string ot)/\W.cell? ⟨w.heap.size+1,7,none⟩=some (.float .f64 wt)/\W.cell? ⟨w.heap.size,0,none⟩=some (.slice p cs.length Z)/\W.cell? ⟨w.heap.size,1,none⟩=some (.slice M os.length D)/\W.cell? ⟨w.heap.size,2,none⟩=some (.map (some R))/\Hid (Bw Q W)))=SP:=⟨_,rfl⟩
 have c:Hid (∀W:World,Bw Q W->SP W):=fun W U=>g1c
 have KT:Hid (∀W:World,Calls prog 129 #[.agg #[.int .i64 8,.int .i64 lo,.int .i64 hi,.int .i64 nn,.slice t tq.length L,.string nm,.string ot,.float .f64 wt]] W (x0c W (touches (⟨8,lo,hi,nn,tq,nm,ot,wt⟩:Rec)))):=fun W=>x3V (⟨8,lo,hi,nn,tq,nm,ot,wt⟩:Rec) _ _ _ W;have y:Hid (∀W:World,Bw Q W->Calls prog 131 #[.agg #[.slice p cs.length Z,.slice M os.length D,.map (some R)],.int .i32 lo] W (IntB W (Cn.wfull l lo))):=fun W U=>y1t l cs os _ _ R lo W (hg.on (V G W U)) (h.below (V G W U)) ab
 have af:IntKind.i32.wrap lo=lo:=by
  unfold Rune at ab;exact t7M
 have n:Bw Q Q.drew:=x0k ⟨1,rfl⟩;have P:=O (V c _ n);have b:Hid (∀W z,Bw Q W->IntB w z (.returned (.int .i64 z)) W):=fun W z U=>⟨rfl,V G W U⟩;have r:=O (V KT Q.drew);generalize touches (⟨8,lo,hi,nn,tq,nm,ot,wt⟩:Rec)=tc,Cn.wfull l lo=wf at *;subst x;unfold xV recV;clear a B A h X hg;cases tc
 ·rw[if_neg e8P];go_enter func84,ntmps84;go_wp2;refine wp_region_held_drew (S:=fun w'=>SP w') f4y (V P) (fun hHeld=>?_);refine tk9 0 (.agg #[.int .i64 8,.int .i64 lo,.int .i64 hi,.int .i64 nn,.slice t tq.length L,.string nm,.string ot,.float .f64 wt]) ?_ (hy:=P4x);refine rd9 1 fun K hK=>?_;go_simp;refine c0m r fun q E=>?_;have s:=x0b n E;have T:=O (V c q s);refine hK.out _ _ ?_ (fun hHeld=>?_)
  ·exact V T
  clear hK K
  try simp only[Act.put,sa9,sb9,sc9]
  refine tk9 2 (.bool false) ?_;refine tk9 3 (.bool false) ?_;refine tk9 4 (.bool false) ?_;refine tn9 5 ?_;refine tn9 6 ?_;refine tn9 7 ?_;refine tn9 8 ?_;refine tn9 9 ?_;refine tn9 10 ?_;refine tn9 11 ?_;refine tn9 12 ?_;refine tn9 13 ?_;refine tk9 14 (.bool false) ?_;refine tk9 15 (.bool false) ?_;refine tk9 16 (.bool false) ?_;refine wpAnyH_done f4y ?_ _;obtain⟨q0,q1,q2,q3,q4,q5,q6,q7,q8,H,C,ae⟩:=(congrFun I _).mpr (V T);have g:=O (V y q s);clear T P KT r y hHeld;go_wp2_with fail;refine c0m g fun W2 F=>?_;have v:=x0b s F;clear g F;by_cases o:wf=0
  ·subst o;go_wp2;refine wp_region_held_drew (S:=fun _=>True) f4y trivial (fun hHeld=>?_);refine tk9 0 (.bool false) ?_;refine tk9 1 (.bool false) ?_;refine tn9 2 ?_;refine tn9 3 ?_;refine tn9 4 ?_;refine tn9 5 ?_;refine tn9 6 ?_;refine tn9 7 ?_;refine tn9 8 ?_;refine tn9 9 ?_;refine tn9 10 ?_;refine tn9 11 ?_;refine tn9 12 ?_;refine tn9 13 ?_;refine tn9 14 ?_;refine tn9 15 ?_;refine tn9 16 ?_;refine tn9 17 ?_;refine tn9 18 ?_;refine tn9 19 ?_;refine tn9 20 ?_;refine tn9 21 ?_;refine tn9 22 ?_;refine tn9 23 ?_;refine tk9 24 (.bool false) ?_;refine wpAnyH_done f4y ?_ _;have Y:=V b W2.drew 0 (x0b v (x0k ⟨1,rfl⟩));clear c b v hHeld s q0 q1 q2 q3 q4 q5 q6 q7 q8 H C ae;exact n0Q
  ·have ag:(wf != 0)=true:=(by simp[o]);have Y:=V b W2 wf v;clear o;clear c b v s q0 q1 q2 q3 q4 q5 q6 q7 q8 H C ae;exact n0Q
 ·rw[if_pos rfl];go_enter func84,ntmps84;go_wp2;refine wp_region_held_drew (S:=fun w'=>SP w') f4y (V P) (fun hHeld=>?_);refine tk9 0 (.agg #[.int .i64 8,.int .i64 lo,.int .i64 hi,.int .i64 nn,.slice t tq.length L,.string nm,.string ot,.float .f64 wt]) ?_ (hy:=P4x);refine rd9 1 fun K hK=>?_;go_simp;refine c0m r fun q E=>?_;have s:=x0b n E;have T:=O (V c q s);refine hK.out _ _ ?_ (fun hHeld=>?_)
  ·exact V T
  clear hK K
  try simp only[Act.put,sa9,sb9,sc9]
  refine tk9 2 (.bool true) ?_;refine tn9 3 ?_;refine tn9 4 ?_;refine tn9 5 ?_;refine tn9 6 ?_;refine tn9 7 ?_;refine tn9 8 ?_;refine tn9 9 ?_;refine tn9 10 ?_;refine tn9 11 ?_;refine tn9 12 ?_;refine tn9 13 ?_;refine tn9 14 ?_;refine tk9 15 (.bool true) ?_;refine tk9 16 (.bool true) ?_;refine wpAnyH_done f4y ?_ _;have Y:=V b q 71 s;clear c P b KT r y T s hHeld;exact n0Q
namespace Cn
def x5O(rs:List Rec)(k:Nat):Nat×Int:=match x0W rs k (rs.drop k)with
 | some x=>x
 | Option.none=>if baseA rs 78 45 then(0,0)else(rs.length,70)
theorem z0v{rs k}(G:k<rs.length)(h:record rs k (rs.getD k none)≠0):x5O rs k=(k,record rs k (rs.getD k none)):=by
 have e:rs.getD k none=rs[k]:=(by grind);rw[e]at h ⊢;unfold x5O;rw[List.drop_eq_getElem_cons G,x0W,if_neg h]
theorem y6m{rs k}(G:k<rs.length)(h:record rs k (rs.getD k none)=0):x5O rs k=x5O rs (k+1):=by
 have e:rs.getD k none=rs[k]:=(by grind);rw[e]at h;unfold x5O;rw[List.drop_eq_getElem_cons G,x0W,if_pos h]
theorem z0u rs:x5O rs rs.length=if baseA rs 78 45 then(0,0)else(rs.length,70):=by
 unfold x5O;rw[List.drop_length,x0W]
theorem y4G{rs}(h:(check6 rs).2≠0):check rs=check6 rs:=by unfold check;rw[if_pos h]
theorem y7h{rs}(h:(check6 rs).2=0):check rs=x5O rs 0:=by unfold check x5O;rw[if_neg (fun e=>e h)];rfl
end Cn
theorem z0S l cs os cv ov mr i vt w(C:Glob w)(h:Idx l w cv ov cs os)(g:PAt w mr (Cn.firstP l))(hi:i<l.length)(X:Sk .i32 w vt (l.getD i Cn.none).to) :
  Calls prog 84 #[xV cv ov (.map (some mr)),.int .i64 (i:Int),recV (l.getD i Cn.none) vt] w (IntB w (Cn.record l i (l.getD i Cn.none))):=by
 obtain⟨S,U⟩:=Cn.x1J h.ok;have y:l.getD i Cn.none∈l:=n7B;have u:=U _ y;have c:=Cn.z2K (l:=l) (i:=i) hi;generalize l.getD i Cn.none=r at *;by_cases G:r.kind=6\/r.kind=7\/r.kind=8
 ·have R:r.kind≠15:=f6J;obtain⟨H,N,B⟩:=Cn.x0o u R;have P:Rune r.lo:=(by unfold Rune;exact f6J);by_cases m:r.lo<128
  ·rw[Cn.y5R u G m];obtain⟨p,Z,rfl,_,_⟩:=h.rc.shape;obtain⟨M,D,rfl,_,_⟩:=h.ro.shape;obtain⟨t,L,rfl,_,_⟩:=X.shape;exact z3s _ _ _ _ _ _ _ _ _ _ _ r.kind r.lo r.hi r.n r.to r.name r.other r.wt w G m
  ·obtain⟨W,lo,E,A,f,Y,z,J⟩:=r;rcases G with b | k7 | k8
   ·simp only at b;subst b;have:=z9S l cs os cv ov mr i lo E A f Y z J vt w h X m;by_cases K:touches ⟨6,lo,E,A,f,Y,z,J⟩=true
    ·rw[if_pos K]at this;rw[Cn.x2D (.inl rfl) m (by rw[K];rfl)];exact this
    ·rw[if_neg K]at this;rw[Cn.x3T (.inl rfl) m R6d,if_pos rfl];exact this
   ·simp only at k7;subst k7;obtain⟨⟨d,T⟩,I⟩:=Cn.x0t (Cn.x0A u rfl).2.2;simp only at d T I
    have j:Rune (f.getD 0 0):=by
     have:=o0d (I (f.getD 0 0) (x6a f6J));unfold Rune;omega
    have x:Rune (f.getD 1 0):=by
     have:=o0d (I (f.getD 1 0) (x6a f6J));unfold Rune;omega
    have:=z9T l cs os cv ov mr i lo E A f Y z J vt w C h X m P f6J j x g;by_cases K:(touches ⟨7,lo,E,A,f,Y,z,J⟩||makes (f.getD 0 0) (f.getD 1 0))=true
    ·rw[if_pos K]at this;rw[Cn.x2D (.inr (.inl rfl)) m R6d];exact this
    ·rw[if_neg K]at this;rw[Cn.x3T (.inr (.inl rfl)) m R6d,if_neg (e8N:¬(7:Int)=6)];by_cases a:Cn.wfull l lo≠0
     ·rw[if_pos a]at this;rw[if_pos a];exact this
     ·rw[if_neg a]at this;rw[if_neg a,c rfl];by_cases Q:Cn.bad7 l i ⟨7,lo,E,A,f,Y,z,J⟩=true
      ·have F:=Q;unfold Cn.bad7 at F;rw[if_pos F]at this;rw[if_pos ⟨rfl,by rw[Q];rfl⟩];exact this
      ·have F:=Q;unfold Cn.bad7 at F;rw[if_neg F]at this;rw[if_neg (fun q=>Q (by simpa using q.2))];exact this
   ·simp only at k8;subst k8;have:=z9U l cs os cv ov mr i lo E A f Y z J vt w C h X m P;by_cases K:touches ⟨8,lo,E,A,f,Y,z,J⟩=true
    ·rw[if_pos K]at this;rw[Cn.x2D (.inr (.inr rfl)) m (by rw[K];rfl)];exact this
    ·rw[if_neg K]at this
     have e:Cn.record l i ⟨8,lo,E,A,f,Y,z,J⟩=Cn.wfull l lo:=by
      rw[Cn.x3T (.inr (.inr rfl)) m R6d,if_neg (e8N:¬(8:Int)=6)];by_cases a:Cn.wfull l lo≠0
      ·rw[if_pos a]
      ·rw[if_neg a,if_neg (fun q=>absurd q.1 (e8N:¬(8:Int)=7))];exact(Decidable.not_not.1 a).symm
     rw[e];exact this
 ·rw[Cn.y2D f6J f6J f6J];obtain⟨p,Z,rfl,_,_⟩:=h.rc.shape;obtain⟨M,D,rfl,_,_⟩:=h.ro.shape;obtain⟨t,L,rfl,_,_⟩:=X.shape;exact z0R _ _ _ _ _ _ _ _ _ _ _ r.kind r.lo r.hi r.n r.to r.name r.other r.wt w f6J f6J f6J
theorem z7B:z7i:=by
 intro v l w hg hv;have K6:=O (y7i v l w hg hv);have c:Hid ((Cn.check6 l).2≠0->Cn.check l=Cn.check6 l):=Cn.y4G;have aA:Hid ((Cn.check6 l).2=0->Cn.check l=Cn.x5O l 0/\∀W,Bw w W->Calls prog 83 #[v] W (y6B W l)):=fun h=>⟨Cn.y7h h,fun W hW=>y0F v l W (hv.below hW) h⟩;have HV:Hid (∀W,Bw w W->Rcs W v l):=fun W hW=>hv.below hW;have HG:Hid (∀W,Bw w W->Glob W):=fun W hW=>hg.on hW;have KB:Hid (∀W,Bw w W->Calls prog 85 #[v] W (x0c W (Cn.baseA l 78 45))):=fun W hW=>y2i v l W (hg.on hW) (hv.below hW);have C:=O (Cn.z0u l);have aH:=O (fun i hi=>hv.fit (i:=i) hi);generalize Cn.check l=res,Cn.check6 l=q at *;obtain⟨q1,g⟩:=q;have aJ:=hv.1;obtain⟨ao,aK,rfl,_,_⟩:=hv.shape;go_enter func45,ntmps45;go_wp2_with fail;refine c0m K6 fun I af=>?_;by_cases hq:g=0
 ·obtain⟨ab,ar⟩:=V aA hq;obtain rfl:g=0:=hq;have KI:=O (ar I af);have U:=O ab;go_wp2_with fail;refine(V KI).mono ?_;rintro e d ⟨cv,ov,P,Q,rfl,f,hP,aF⟩;have am:=x0b af aF;obtain⟨p,Z,rfl,_,_⟩:=f.rc.shape;obtain⟨M,D,rfl,_,_⟩:=f.ro.shape;unfold xV;have X:Bw d (d.alloc (.cells #[.slice p P.length Z,.slice M Q.length D,.map (some (I.heap.size+1))] 125)):=(b0r).alloc (l0r _) _
  have aG:(d.alloc (.cells #[.slice p P.length Z,.slice M Q.length D,.map (some (I.heap.size+1))] 125)).heap[d.heap.size]?=some (.cells #[.slice p P.length Z,.slice M Q.length D,.map (some (I.heap.size+1))] 125 (0,0)):=by
   show(d.heap.push _)[d.heap.size]?=_;simp
  have z:(d.alloc (.cells #[.slice p P.length Z,.slice M Q.length D,.map (some (I.heap.size+1))] 125)).heap.size=d.heap.size+1:=M7L;have aj:Hid (∀W,Below (d.heap.size+1) (d.alloc (.cells #[.slice p P.length Z,.slice M Q.length D,.map (some (I.heap.size+1))] 125)) W->Bw d W):=fun W hW=>X.trans (hW.mono f6J)
  have aC:Hid (∀W,Below (d.heap.size+1) (d.alloc (.cells #[.slice p P.length Z,.slice M Q.length D,.map (some (I.heap.size+1))] 125)) W->W.cell? ⟨d.heap.size,0,none⟩=some (.slice p P.length Z)/\W.cell? ⟨d.heap.size,1,none⟩=some (.slice M Q.length D)/\W.cell? ⟨d.heap.size,2,none⟩=some (.map (some (I.heap.size+1)))):=fun W hW=>by
   have hx:=(hW.block (d.heap.size) f6J).trans aG;exact⟨cell_of (j:=0) hx T7e,cell_of (j:=1) hx f2P,cell_of (j:=2) hx U4w⟩
  have aB:Hid (∀i F W,i<l.length->Bw d W->Sk .i32 W F (l.getD i Cn.none).to->Calls prog 84 #[.agg #[.slice p P.length Z,.slice M Q.length D,.map (some (I.heap.size+1))],.int .i64 (i:Int),recV (l.getD i Cn.none) F] W (IntB W (Cn.record l i (l.getD i Cn.none)))):=fun i F W hi hW hs=>by
   obtain⟨es,cl,p1,p2⟩:=hP;exact z0S l P Q _ _ _ i F W (V HG W (x0b am hW)) (f.below hW) ⟨es,cl,by rw[hW.block _ (x0B p1)];exact p1,p2⟩ hi hs
  have ag:=O am;go_wp2;go_loopw[7,8,9,23] (fun _ _ _ S wr=>∃k:Nat,S=.int .i64 k/\k<=l.length/\Hid (res=Cn.x5O l k)/\Hid (Below (d.heap.size+1) (d.alloc (.cells #[.slice p P.length Z,.slice M Q.length D,.map (some (I.heap.size+1))] 125)) wr)) (fun _ _ _ S _=>l.length-(intOf S).toNat)
  case atStart=>exact⟨0,rfl,f6J,U,b0r⟩
  case round =>
   obtain⟨k,rfl,hk,U,N⟩:=hrel;have ae:=V aj wr (V N);have B:Bw w wr:=x0b (V ag) ae;by_cases H:k<l.length
   ·obtain⟨b,aO,aI,ev,_,_,T⟩:=(V HV wr B).place f6J;simp only[Value.slice.injEq]at ev;obtain⟨rfl,_,rfl⟩:=ev;obtain⟨x0,x1,x2,x3,⟨F,x4,aw⟩,x5,x6,x7⟩:=T k H;obtain⟨t,L,rfl,_,_⟩:=aw.shape;have s:∀o,Bw wr (wr.alloc o):=fun o=>(b0r).alloc (l0r _) _;have E:∀o,Below (d.heap.size+1) (d.alloc (.cells #[.slice p P.length Z,.slice M Q.length D,.map (some (I.heap.size+1))] 125)) (wr.alloc o):=fun o=>(V N).trans ((s o).mono (by have:=(V N).size;rw[z]at this;exact f6J));have KK:=O (V aB k _ (wr.alloc (.cells #[.int .i64 (l.getD k Cn.none).kind,.int .i64 (l.getD k Cn.none).lo,.int .i64 (l.getD k Cn.none).hi,.int .i64 (l.getD k Cn.none).n,.slice t (l.getD k Cn.none).to.length L,.string (l.getD k Cn.none).name,.string (l.getD k Cn.none).other,.float .f64 (l.getD k Cn.none).wt] 67)) H (x0b ae (s _)) (aw.below (s _)));obtain⟨y0,y1,y2⟩:=V aC _ (E (.cells #[.int .i64 (l.getD k Cn.none).kind,.int .i64 (l.getD k Cn.none).lo,.int .i64 (l.getD k Cn.none).hi,.int .i64 (l.getD k Cn.none).n,.slice t (l.getD k Cn.none).to.length L,.string (l.getD k Cn.none).name,.string (l.getD k Cn.none).other,.float .f64 (l.getD k Cn.none).wt] 67));have J:=O (E (.cells #[.int .i64 (l.getD k Cn.none).kind,.int .i64 (l.getD k Cn.none).lo,.int .i64 (l.getD k Cn.none).hi,.int .i64 (l.getD k Cn.none).n,.slice t (l.getD k Cn.none).to.length L,.string (l.getD k Cn.none).name,.string (l.getD k Cn.none).other,.float .f64 (l.getD k Cn.none).wt] 67));have ai:Hid (Cn.record l k (l.getD k Cn.none)≠0->res=(k,Cn.record l k (l.getD k Cn.none))):=fun h=>(V U).trans (Cn.z0v H h);have x:Hid (Cn.record l k (l.getD k Cn.none)=0->res=Cn.x5O l (k+1)):=fun h=>(V U).trans (Cn.y6m H h);have ay:=(V N).size;rw[z]at ay;unfold recV at KK;generalize Cn.record l k (l.getD k Cn.none)=y at *;generalize l.getD k Cn.none=r at *;have aL:∀W a m,(store a (.float .f64 r.wt) m).run prog W=stored prog W a (.float .f64 r.wt) m:=fun W a m=>run_store prog W a _ m rfl;go_wp2_with fail;refine c0m KK fun G R=>?_;have A:Hid (Below (d.heap.size+1) (d.alloc (.cells #[.slice p P.length Z,.slice M Q.length D,.map (some (I.heap.size+1))] 125)) G):=(V J).trans (R.mono (by have:=(V J).size;rw[z]at this;exact this));have az:Hid (Bw w G):=x0b (V ag) (V aj G (V A));by_cases hy:y=0
    ·have HN:=O (V x hy);obtain rfl:y=0:=hy;go_wp2
     go_roundw
     case rel=>exact⟨k+1,g2A,f6J,HN,A⟩
     case measure=>exact g7V
    ·obtain rfl:=V ai hy;have aN:(y != 0)=true:=(by simp[hy]);have Y:x3X w (k,y) (.returned (.tuple #[.int .i64 (k:Int),.int .i64 y])) G:=⟨rfl,V az⟩;exact m7N
   ·obtain rfl:k=l.length:=f6J;have aD:=O (V KB wr B);have ab:=(V U).trans (V C);have u:=O ab;have K:=O B;generalize Cn.baseA l 78 45=bb at *;go_wp2_with fail;refine c0m aD fun G R=>?_;have aq:=x0b (V K) R;cases bb
    ·obtain rfl:res=(l.length,70):=V u;have Y:x3X w (l.length,70) (.returned (.tuple #[.int .i64 (l.length:Int),.int .i64 70])) G:=⟨rfl,aq⟩;exact m7N
    ·obtain rfl:res=(0,0):=V u;have Y:x3X w (0,0) (.returned (.tuple #[.int .i64 0,.int .i64 0])) G:=⟨rfl,aq⟩;exact m7N
 ·obtain rfl:=V c hq;have aM:(g != 0)=true:=(by simp[hq]);have Y:x3X w (q1,g) (.returned (.tuple #[.int .i64 (q1:Int),.int .i64 g])) I:=⟨rfl,af⟩;exact m7N
