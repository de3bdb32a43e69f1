import Derived.Test.YtbmckadcjdedcaaGreatDoorF25
import Derived.Test.YtbmckadcjdedcaaGreatDoorF22
set_option maxHeartbeats 16000000
set_option maxRecDepth 20000
namespace Go.Proofs.YtbmckadcjdedcaaGreatDoor
open Go.Proofs.Tryz
open Go.RowKit
section
variable{p:Prop}
theorem P3Z(h:p:=by simpa using Q):p:=h
theorem n7N(h:p:=by rw[<- Y];have J:=(t.block (w.heap.size) f6J).trans s;have u:=(t.block (w.heap.size+1) f6J).trans ab;exact⟨cell_of (j:=0) u s5q,cell_of (j:=1) u G0Z,cell_of (j:=2) u V3Y,cell_of (j:=3) u e8d,cell_of (j:=4) u e2U,cell_of (j:=5) u i3Y,cell_of (j:=6) u F4N,cell_of (j:=7) u U3M,cell_of (j:=0) J T7e,cell_of (j:=1) J (by show 1<3;exact f6J),cell_of (j:=2) J U4w,t⟩):p:=h
theorem W4c(h:p:=by show((w.heap.push _).push _)[w.heap.size+1]?=_;rw[Array.getElem?_push];simp):p:=h
theorem p2t(h:p:=by(intro w hSw;obtain⟨s0,s1,s2,s3,s4,s5,s6,s7,s8,s9,d,k⟩:=(congrFun Y _).mpr hSw;go_simp)):p:=h
theorem U5X(h:p:=by(intro w hSw;obtain⟨H,N,s2,C,R,s5,s6,X,o,q,d,k⟩:=(congrFun Y _).mpr hSw;go_simp)):p:=h
theorem P5F(h:p:=by rw[<- x];exact((b0r).alloc (l0r _) _).alloc M7M _):p:=h
end
theorem z9S l cs os cv ov(y i:Nat) lo hi nn tq nm ot wt vt w(h:Idx l w cv ov cs os)(U:Sk .i32 w vt tq)(m:¬lo<128) :
  Calls prog 84 #[xV cv ov (.map (some y)),.int .i64 (i:Int),recV (⟨6,lo,hi,nn,tq,nm,ot,wt⟩:Rec) vt] w (IntB w (if touches (⟨6,lo,hi,nn,tq,nm,ot,wt⟩:Rec)=true then 71 else 0)):=by
 obtain⟨P,Z,rfl,_,_⟩:=h.rc.shape;obtain⟨M,D,rfl,_,_⟩:=h.ro.shape;obtain⟨B,L,rfl,_,_⟩:=U.shape;obtain⟨Q,x⟩:∃Q,((w.alloc (.cells #[.slice P cs.length Z,.slice M os.length D,.map (some y)] 125)).alloc (.cells #[.int .i64 6,.int .i64 lo,.int .i64 hi,.int .i64 nn,.slice B tq.length L,.string nm,.string ot,.float .f64 wt] 67))=Q:=⟨_,rfl⟩;have A:Bw w Q:=P5F;have a:Q.heap.size=w.heap.size+2:=by rw[<- x];exact M7M
 have s:Q.heap[w.heap.size]?=some (.cells #[.slice P cs.length Z,.slice M os.length D,.map (some y)] 125 (0,0)):=by
  rw[<- x];exact n9Y
 have ab:Q.heap[w.heap.size+1]?=some (.cells #[.int .i64 6,.int .i64 lo,.int .i64 hi,.int .i64 nn,.slice B tq.length L,.string nm,.string ot,.float .f64 wt] 67 (0,0)):=by
  rw[<- x];exact W4c
 have p:Hid (∀W:World,Bw Q W->Bw w W):=fun W t=>A.trans (t.mono f6J);obtain⟨v,Y⟩:∃v:World->Prop,(fun W=>(W.cell? ⟨w.heap.size+1,0,none⟩=some (.int .i64 6)/\W.cell? ⟨w.heap.size+1,1,none⟩=some (.int .i64 lo)/\W.cell? ⟨w.heap.size+1,2,none⟩=some (.int .i64 hi)/\W.cell? ⟨w.heap.size+1,3,none⟩=some (.int .i64 nn)/\W.cell? ⟨w.heap.size+1,4,none⟩=some (.slice B tq.length L)/\W.cell? ⟨w.heap.size+1,5,none⟩=some (.string nm)/\W.cell? ⟨w.heap.size+1,6,none⟩=some (.string ot)/\W.cell? ⟨w.heap.size+1,7,none⟩=some (.float .f64 wt)/\W.cell? ⟨w.heap.size,0,none⟩=some (.slice P cs.length Z)/\W.cell? ⟨w.heap.size,1,none⟩=some (.slice M os.length D)/\W.cell? ⟨w.heap.size,2,none⟩=some (.map (some y))/\Hid (Bw Q W)))=v:=⟨_,rfl⟩
 have c:Hid (∀W:World,Bw Q W->v W):=fun W t=>n7N
 have F:Hid (∀W:World,Calls prog 129 #[.agg #[.int .i64 6,.int .i64 lo,.int .i64 hi,.int .i64 nn,.slice B tq.length L,.string nm,.string ot,.float .f64 wt]] W (x0c W (touches (⟨6,lo,hi,nn,tq,nm,ot,wt⟩:Rec)))):=fun W=>x3Y (⟨6,lo,hi,nn,tq,nm,ot,wt⟩:Rec) _ _ _ W;have n:Bw Q Q.drew:=x0k ⟨1,rfl⟩;have G:=O (V c _ n);have b:Hid (∀W z,Bw Q W->IntB w z (.returned (.int .i64 z)) W):=fun W z t=>⟨rfl,V p W t⟩;have r:=O (V F Q.drew);generalize touches (⟨6,lo,hi,nn,tq,nm,ot,wt⟩:Rec)=tc at *;subst x;unfold xV recV;clear s ab A h U;cases tc
 ·rw[if_neg e8P];go_enter func84,ntmps84;go_wp2;refine wp_region_held_drew (S:=fun w'=>v w') f4y (V G) (fun hHeld=>?_);refine tk9 0 (.agg #[.int .i64 6,.int .i64 lo,.int .i64 hi,.int .i64 nn,.slice B tq.length L,.string nm,.string ot,.float .f64 wt]) ?_ (hy:=U5X);refine rd9 1 fun K hK=>?_;go_simp;refine c0m r fun f E=>?_;have g:=x0b n E;have I:=O (V c f g);refine hK.out _ _ ?_ (fun hHeld=>?_)
  ·exact V I
  clear hK K
  try simp only[Act.put,sa9,sb9,sc9]
  refine tk9 2 (.bool false) ?_;refine tk9 3 (.bool false) ?_;refine tk9 4 (.bool false) ?_;refine tn9 5 ?_;refine tn9 6 ?_;refine tn9 7 ?_;refine tn9 8 ?_;refine tn9 9 ?_;refine tn9 10 ?_;refine tn9 11 ?_;refine tn9 12 ?_;refine tn9 13 ?_;refine tk9 14 (.bool false) ?_;refine tk9 15 (.bool false) ?_;refine tk9 16 (.bool false) ?_;refine wpAnyH_done f4y ?_ _;go_wp2;refine wp_region_held_drew (S:=fun _=>True) f4y trivial (fun hHeld=>?_);refine tk9 0 (.bool false) ?_;refine tk9 1 (.bool false) ?_;refine tn9 2 ?_;refine tn9 3 ?_;refine tn9 4 ?_;refine tn9 5 ?_;refine tn9 6 ?_;refine tn9 7 ?_;refine tn9 8 ?_;refine tn9 9 ?_;refine tn9 10 ?_;refine tn9 11 ?_;refine tn9 12 ?_;refine tn9 13 ?_;refine tn9 14 ?_;refine tn9 15 ?_;refine tn9 16 ?_;refine tn9 17 ?_;refine tn9 18 ?_;refine tn9 19 ?_;refine tn9 20 ?_;refine tn9 21 ?_;refine tn9 22 ?_;refine tn9 23 ?_;refine tk9 24 (.bool false) ?_;refine wpAnyH_done f4y ?_ _;have T:=V b f.drew 0 (x0b g (x0k ⟨1,rfl⟩));clear c G b F r I g hHeld;exact U7L
 ·rw[if_pos rfl];go_enter func84,ntmps84;go_wp2;refine wp_region_held_drew (S:=fun w'=>v w') f4y (V G) (fun hHeld=>?_);refine tk9 0 (.agg #[.int .i64 6,.int .i64 lo,.int .i64 hi,.int .i64 nn,.slice B tq.length L,.string nm,.string ot,.float .f64 wt]) ?_ (hy:=U5X);refine rd9 1 fun K hK=>?_;go_simp;refine c0m r fun f E=>?_;have g:=x0b n E;have I:=O (V c f g);refine hK.out _ _ ?_ (fun hHeld=>?_)
  ·exact V I
  clear hK K
  try simp only[Act.put,sa9,sb9,sc9]
  refine tk9 2 (.bool true) ?_;refine tn9 3 ?_;refine tn9 4 ?_;refine tn9 5 ?_;refine tn9 6 ?_;refine tn9 7 ?_;refine tn9 8 ?_;refine tn9 9 ?_;refine tn9 10 ?_;refine tn9 11 ?_;refine tn9 12 ?_;refine tn9 13 ?_;refine tn9 14 ?_;refine tk9 15 (.bool true) ?_;refine tk9 16 (.bool true) ?_;refine wpAnyH_done f4y ?_ _;have T:=V b f 71 g;clear c G b F r I g hHeld;exact U7L
theorem z9U l cs os cv ov(y i:Nat) lo hi nn tq nm ot wt vt w(C:Glob w)(h:Idx l w cv ov cs os)(U:Sk .i32 w vt tq)(m:¬lo<128)(X:Rune lo) :
  Calls prog 84 #[xV cv ov (.map (some y)),.int .i64 (i:Int),recV (⟨8,lo,hi,nn,tq,nm,ot,wt⟩:Rec) vt] w (IntB w (if touches (⟨8,lo,hi,nn,tq,nm,ot,wt⟩:Rec)=true then 71 else Cn.wfull l lo)):=by
 obtain⟨P,Z,rfl,_,_⟩:=h.rc.shape;obtain⟨M,D,rfl,_,_⟩:=h.ro.shape;obtain⟨B,L,rfl,_,_⟩:=U.shape;obtain⟨Q,x⟩:∃Q,((w.alloc (.cells #[.slice P cs.length Z,.slice M os.length D,.map (some y)] 125)).alloc (.cells #[.int .i64 8,.int .i64 lo,.int .i64 hi,.int .i64 nn,.slice B tq.length L,.string nm,.string ot,.float .f64 wt] 67))=Q:=⟨_,rfl⟩;have A:Bw w Q:=P5F;have a:Q.heap.size=w.heap.size+2:=by rw[<- x];exact M7M
 have s:Q.heap[w.heap.size]?=some (.cells #[.slice P cs.length Z,.slice M os.length D,.map (some y)] 125 (0,0)):=by
  rw[<- x];exact n9Y
 have ab:Q.heap[w.heap.size+1]?=some (.cells #[.int .i64 8,.int .i64 lo,.int .i64 hi,.int .i64 nn,.slice B tq.length L,.string nm,.string ot,.float .f64 wt] 67 (0,0)):=by
  rw[<- x];exact W4c
 have p:Hid (∀W:World,Bw Q W->Bw w W):=fun W t=>A.trans (t.mono f6J);obtain⟨SP,Y⟩:∃SP:World->Prop,(fun W=>(W.cell? ⟨w.heap.size+1,0,none⟩=some (.int .i64 8)/\W.cell? ⟨w.heap.size+1,1,none⟩=some (.int .i64 lo)/\W.cell? ⟨w.heap.size+1,2,none⟩=some (.int .i64 hi)/\W.cell? ⟨w.heap.size+1,3,none⟩=some (.int .i64 nn)/\W.cell? ⟨w.heap.size+1,4,none⟩=some (.slice B tq.length L)/\W.cell? ⟨w.heap.size+1,5,none⟩=some (.string nm)/\W.cell? ⟨w.heap.size+1,6,none⟩=some (.string ot)/\W.cell? ⟨w.heap.size+1,7,none⟩=some (.float .f64 wt)/\W.cell? ⟨w.heap.size,0,none⟩=some (.slice P cs.length Z)/\W.cell? ⟨w.heap.size,1,none⟩=some (.slice M os.length D)/\W.cell? ⟨w.heap.size,2,none⟩=some (.map (some y))/\Hid (Bw Q W)))=SP:=⟨_,rfl⟩
 have c:Hid (∀W:World,Bw Q W->SP W):=fun W t=>n7N
 have KT:Hid (∀W:World,Calls prog 129 #[.agg #[.int .i64 8,.int .i64 lo,.int .i64 hi,.int .i64 nn,.slice B tq.length L,.string nm,.string ot,.float .f64 wt]] W (x0c W (touches (⟨8,lo,hi,nn,tq,nm,ot,wt⟩:Rec)))):=fun W=>x3Y (⟨8,lo,hi,nn,tq,nm,ot,wt⟩:Rec) _ _ _ W;have q:Hid (∀W:World,Bw Q W->Calls prog 131 #[.agg #[.slice P cs.length Z,.slice M os.length D,.map (some y)],.int .i32 lo] W (IntB W (Cn.wfull l lo))):=fun W t=>y1D l cs os _ _ y lo W (C.on (V p W t)) (h.below (V p W t)) X
 have ag:IntKind.i32.wrap lo=lo:=by
  unfold Rune at X;exact t7M
 have n:Bw Q Q.drew:=x0k ⟨1,rfl⟩;have G:=O (V c _ n);have b:Hid (∀W z,Bw Q W->IntB w z (.returned (.int .i64 z)) W):=fun W z t=>⟨rfl,V p W t⟩;have r:=O (V KT Q.drew);generalize touches (⟨8,lo,hi,nn,tq,nm,ot,wt⟩:Rec)=tc,Cn.wfull l lo=H at *;subst x;unfold xV recV;clear s ab A h U C;cases tc
 ·rw[if_neg e8P];go_enter func84,ntmps84;go_wp2;refine wp_region_held_drew (S:=fun w'=>SP w') f4y (V G) (fun hHeld=>?_);refine tk9 0 (.agg #[.int .i64 8,.int .i64 lo,.int .i64 hi,.int .i64 nn,.slice B tq.length L,.string nm,.string ot,.float .f64 wt]) ?_ (hy:=p2t);refine rd9 1 fun K hK=>?_;go_simp;refine c0m r fun f E=>?_;have g:=x0b n E;have I:=O (V c f g);refine hK.out _ _ ?_ (fun hHeld=>?_)
  ·exact V I
  clear hK K
  try simp only[Act.put,sa9,sb9,sc9]
  refine tk9 2 (.bool false) ?_;refine tk9 3 (.bool false) ?_;refine tk9 4 (.bool false) ?_;refine tn9 5 ?_;refine tn9 6 ?_;refine tn9 7 ?_;refine tn9 8 ?_;refine tn9 9 ?_;refine tn9 10 ?_;refine tn9 11 ?_;refine tn9 12 ?_;refine tn9 13 ?_;refine tk9 14 (.bool false) ?_;refine tk9 15 (.bool false) ?_;refine tk9 16 (.bool false) ?_;refine wpAnyH_done f4y ?_ _;obtain⟨q0,q1,q2,q3,N,q5,R,q7,q8,q9,ae,af⟩:=(congrFun Y _).mpr (V I);have K2:=O (V q f g);clear I G KT r q hHeld;go_wp2_with fail;refine c0m K2 fun W2 F=>?_;have v:=x0b g F;clear K2 F;by_cases o:H=0
  ·subst o;go_wp2;refine wp_region_held_drew (S:=fun _=>True) f4y trivial (fun hHeld=>?_);refine tk9 0 (.bool false) ?_;refine tk9 1 (.bool false) ?_;refine tn9 2 ?_;refine tn9 3 ?_;refine tn9 4 ?_;refine tn9 5 ?_;refine tn9 6 ?_;refine tn9 7 ?_;refine tn9 8 ?_;refine tn9 9 ?_;refine tn9 10 ?_;refine tn9 11 ?_;refine tn9 12 ?_;refine tn9 13 ?_;refine tn9 14 ?_;refine tn9 15 ?_;refine tn9 16 ?_;refine tn9 17 ?_;refine tn9 18 ?_;refine tn9 19 ?_;refine tn9 20 ?_;refine tn9 21 ?_;refine tn9 22 ?_;refine tn9 23 ?_;refine tk9 24 (.bool false) ?_;refine wpAnyH_done f4y ?_ _;have T:=V b W2.drew 0 (x0b v (x0k ⟨1,rfl⟩));clear c b v hHeld g q0 q1 q2 q3 N q5 R q7 q8 q9 ae af;exact U7L
  ·have ai:(H != 0)=true:=(by simp[o]);have T:=V b W2 H v;clear o;clear c b v g q0 q1 q2 q3 N q5 R q7 q8 q9 ae af;exact U7L
 ·rw[if_pos rfl];go_enter func84,ntmps84;go_wp2;refine wp_region_held_drew (S:=fun w'=>SP w') f4y (V G) (fun hHeld=>?_);refine tk9 0 (.agg #[.int .i64 8,.int .i64 lo,.int .i64 hi,.int .i64 nn,.slice B tq.length L,.string nm,.string ot,.float .f64 wt]) ?_ (hy:=p2t);refine rd9 1 fun K hK=>?_;go_simp;refine c0m r fun f E=>?_;have g:=x0b n E;have I:=O (V c f g);refine hK.out _ _ ?_ (fun hHeld=>?_)
  ·exact V I
  clear hK K
  try simp only[Act.put,sa9,sb9,sc9]
  refine tk9 2 (.bool true) ?_;refine tn9 3 ?_;refine tn9 4 ?_;refine tn9 5 ?_;refine tn9 6 ?_;refine tn9 7 ?_;refine tn9 8 ?_;refine tn9 9 ?_;refine tn9 10 ?_;refine tn9 11 ?_;refine tn9 12 ?_;refine tn9 13 ?_;refine tn9 14 ?_;refine tk9 15 (.bool true) ?_;refine tk9 16 (.bool true) ?_;refine wpAnyH_done f4y ?_ _;have T:=V b f 71 g;clear c G b KT r q I g hHeld;exact U7L
namespace Cn
def x5K(rs:List Rec)(k:Nat):Nat×Int:=match x0U rs k (rs.drop k)with
 | some x=>x
 | Option.none=>if baseA rs 78 45 then(0,0)else(rs.length,70)
theorem z0z{rs k}(G:k<rs.length)(h:record rs k (rs.getD k none)≠0):x5K rs k=(k,record rs k (rs.getD k none)):=by
 have e:rs.getD k none=rs[k]:=(by grind);rw[e]at h ⊢;unfold x5K;rw[List.drop_eq_getElem_cons G,x0U,if_neg h]
theorem y6x{rs k}(G:k<rs.length)(h:record rs k (rs.getD k none)=0):x5K rs k=x5K rs (k+1):=by
 have e:rs.getD k none=rs[k]:=(by grind);rw[e]at h;unfold x5K;rw[List.drop_eq_getElem_cons G,x0U,if_pos h]
theorem z0y rs:x5K rs rs.length=if baseA rs 78 45 then(0,0)else(rs.length,70):=by
 unfold x5K;rw[List.drop_length,x0U]
theorem y4S{rs}(h:(check6 rs).2≠0):check rs=check6 rs:=by unfold check;rw[if_pos h]
theorem y7r{rs}(h:(check6 rs).2=0):check rs=x5K rs 0:=by unfold check x5K;rw[if_neg (fun e=>e h)];rfl
end Cn
theorem z0V l cs os cv ov mr i vt w(C:Glob w)(h:Idx l w cv ov cs os)(k:PAt w mr (Cn.firstP l))(hi:i<l.length)(U:Sk .i32 w vt (l.getD i Cn.none).to) :
  Calls prog 84 #[xV cv ov (.map (some mr)),.int .i64 (i:Int),recV (l.getD i Cn.none) vt] w (IntB w (Cn.record l i (l.getD i Cn.none))):=by
 obtain⟨S,T⟩:=Cn.x1J h.ok;have z:l.getD i Cn.none∈l:=n7D;have u:=T _ z;have a:=Cn.z2O (l:=l) (i:=i) hi;generalize l.getD i Cn.none=r at *;by_cases G:r.kind=6\/r.kind=7\/r.kind=8
 ·have j:r.kind≠15:=f6J;obtain⟨H,N,s⟩:=Cn.x0n u j;have X:Rune r.lo:=(by unfold Rune;exact f6J);by_cases m:r.lo<128
  ·rw[Cn.y6c u G m];obtain⟨P,Z,rfl,_,_⟩:=h.rc.shape;obtain⟨b,D,rfl,_,_⟩:=h.ro.shape;obtain⟨d,L,rfl,_,_⟩:=U.shape;exact z3x _ _ _ _ _ _ _ _ _ _ _ r.kind r.lo r.hi r.n r.to r.name r.other r.wt w G m
  ·obtain⟨K,lo,E,A,f,c,R,J⟩:=r;rcases G with W|k7|k8
   ·simp only at W;subst W;have:=z9S l cs os cv ov mr i lo E A f c R J vt w h U m;by_cases Q:touches ⟨6,lo,E,A,f,c,R,J⟩=true
    ·rw[if_pos Q]at this;rw[Cn.x2G (.inl rfl) m (by rw[Q];rfl)];exact this
    ·rw[if_neg Q]at this;rw[Cn.x3W (.inl rfl) m P3Z,if_pos rfl];exact this
   ·simp only at k7;subst k7;obtain⟨⟨g,I⟩,M⟩:=Cn.x0u (Cn.x0s u rfl).2.2;simp only at g I M
    have B:Rune (f.getD 0 0):=by
     have:=o0d (M (f.getD 0 0) (x5X f6J));unfold Rune;omega
    have x:Rune (f.getD 1 0):=by
     have:=o0d (M (f.getD 1 0) (x5X f6J));unfold Rune;omega
    have:=z9T l cs os cv ov mr i lo E A f c R J vt w C h U m X f6J B x k;by_cases Q:(touches ⟨7,lo,E,A,f,c,R,J⟩||makes (f.getD 0 0) (f.getD 1 0))=true
    ·rw[if_pos Q]at this;rw[Cn.x2G (.inr (.inl rfl)) m P3Z];exact this
    ·rw[if_neg Q]at this;rw[Cn.x3W (.inr (.inl rfl)) m P3Z,if_neg (e8N:¬(7:Int)=6)];by_cases t:Cn.wfull l lo≠0
     ·rw[if_pos t]at this;rw[if_pos t];exact this
     ·rw[if_neg t]at this;rw[if_neg t,a rfl];by_cases Y:Cn.bad7 l i ⟨7,lo,E,A,f,c,R,J⟩=true
      ·have F:=Y;unfold Cn.bad7 at F;rw[if_pos F]at this;rw[if_pos ⟨rfl,by rw[Y];rfl⟩];exact this
      ·have F:=Y;unfold Cn.bad7 at F;rw[if_neg F]at this;rw[if_neg (fun q=>Y (by simpa using q.2))];exact this
   ·simp only at k8;subst k8;have:=z9U l cs os cv ov mr i lo E A f c R J vt w C h U m X;by_cases Q:touches ⟨8,lo,E,A,f,c,R,J⟩=true
    ·rw[if_pos Q]at this;rw[Cn.x2G (.inr (.inr rfl)) m (by rw[Q];rfl)];exact this
    ·rw[if_neg Q]at this
     have e:Cn.record l i ⟨8,lo,E,A,f,c,R,J⟩=Cn.wfull l lo:=by
      rw[Cn.x3W (.inr (.inr rfl)) m P3Z,if_neg (e8N:¬(8:Int)=6)];by_cases t:Cn.wfull l lo≠0
      ·rw[if_pos t]
      ·rw[if_neg t,if_neg (fun q=>absurd q.1 (e8N:¬(8:Int)=7))];exact(Decidable.not_not.1 t).symm
     rw[e];exact this
 ·rw[Cn.y2L f6J f6J f6J];obtain⟨P,Z,rfl,_,_⟩:=h.rc.shape;obtain⟨b,D,rfl,_,_⟩:=h.ro.shape;obtain⟨d,L,rfl,_,_⟩:=U.shape;exact z0U _ _ _ _ _ _ _ _ _ _ _ r.kind r.lo r.hi r.n r.to r.name r.other r.wt w f6J f6J f6J
theorem z7C:z7j:=by
 intro v l w hg hv;have K6:=O (y7s v l w hg hv);have aj:Hid ((Cn.check6 l).2≠0->Cn.check l=Cn.check6 l):=Cn.y4S;have aA:Hid ((Cn.check6 l).2=0->Cn.check l=Cn.x5K l 0/\∀W,Bw w W->Calls prog 83 #[v] W (y6M W l)):=fun h=>⟨Cn.y7r h,fun W t=>y0P v l W (hv.below t) h⟩;have HV:Hid (∀W,Bw w W->Rcs W v l):=fun W t=>hv.below t;have HG:Hid (∀W,Bw w W->Glob W):=fun W t=>hg.on t;have KB:Hid (∀W,Bw w W->Calls prog 85 #[v] W (x0c W (Cn.baseA l 78 45))):=fun W t=>y2q v l W (hg.on t) (hv.below t);have ai:=O (Cn.z0y l);have aH:=O (fun i hi=>hv.fit (i:=i) hi);generalize Cn.check l=res,Cn.check6 l=q at *;obtain⟨q1,x⟩:=q;have aJ:=hv.1;obtain⟨ao,aK,rfl,_,_⟩:=hv.shape;go_enter func45,ntmps45;go_wp2_with fail;refine c0m K6 fun Q E=>?_;by_cases hq:x=0
 ·obtain⟨R,c⟩:=V aA hq;obtain rfl:x=0:=hq;have KI:=O (c Q E);have K:=O R;go_wp2_with fail;refine(V KI).mono ?_;rintro e d ⟨cv,ov,f,Y,rfl,hI,hP,aG⟩;have aq:=x0b E aG;obtain⟨P,Z,rfl,_,_⟩:=hI.rc.shape;obtain⟨M,D,rfl,_,_⟩:=hI.ro.shape;unfold xV;have aF:Bw d (d.alloc (.cells #[.slice P f.length Z,.slice M Y.length D,.map (some (Q.heap.size+1))] 125)):=(b0r).alloc (l0r _) _
  have s:(d.alloc (.cells #[.slice P f.length Z,.slice M Y.length D,.map (some (Q.heap.size+1))] 125)).heap[d.heap.size]?=some (.cells #[.slice P f.length Z,.slice M Y.length D,.map (some (Q.heap.size+1))] 125 (0,0)):=by
   show(d.heap.push _)[d.heap.size]?=_;simp
  have z:(d.alloc (.cells #[.slice P f.length Z,.slice M Y.length D,.map (some (Q.heap.size+1))] 125)).heap.size=d.heap.size+1:=M7L;have am:Hid (∀W,Below (d.heap.size+1) (d.alloc (.cells #[.slice P f.length Z,.slice M Y.length D,.map (some (Q.heap.size+1))] 125)) W->Bw d W):=fun W t=>aF.trans (t.mono f6J)
  have aC:Hid (∀W,Below (d.heap.size+1) (d.alloc (.cells #[.slice P f.length Z,.slice M Y.length D,.map (some (Q.heap.size+1))] 125)) W->W.cell? ⟨d.heap.size,0,none⟩=some (.slice P f.length Z)/\W.cell? ⟨d.heap.size,1,none⟩=some (.slice M Y.length D)/\W.cell? ⟨d.heap.size,2,none⟩=some (.map (some (Q.heap.size+1)))):=fun W t=>by
   have J:=(t.block (d.heap.size) f6J).trans s;exact⟨cell_of (j:=0) J T7e,cell_of (j:=1) J f2P,cell_of (j:=2) J U4w⟩
  have aB:Hid (∀i vt W,i<l.length->Bw d W->Sk .i32 W vt (l.getD i Cn.none).to->Calls prog 84 #[.agg #[.slice P f.length Z,.slice M Y.length D,.map (some (Q.heap.size+1))],.int .i64 (i:Int),recV (l.getD i Cn.none) vt] W (IntB W (Cn.record l i (l.getD i Cn.none)))):=fun i vt W hi t hs=>by
   obtain⟨es,cl,p1,p2⟩:=hP;exact z0V l f Y _ _ _ i vt W (V HG W (x0b aq t)) (hI.below t) ⟨es,cl,by rw[t.block _ (x0B p1)];exact p1,p2⟩ hi hs
  have af:=O aq;go_wp2;go_loopw[7,8,9,23] (fun _ _ _ iv wr=>∃k:Nat,iv=.int .i64 k/\k<=l.length/\Hid (res=Cn.x5K l k)/\Hid (Below (d.heap.size+1) (d.alloc (.cells #[.slice P f.length Z,.slice M Y.length D,.map (some (Q.heap.size+1))] 125)) wr)) (fun _ _ _ iv _=>l.length-(intOf iv).toNat)
  case atStart=>exact⟨0,rfl,f6J,K,b0r⟩
  case round =>
   obtain⟨k,rfl,hk,K,S⟩:=hrel;have B:=V am wr (V S);have A:Bw w wr:=x0b (V af) B;by_cases H:k<l.length
   ·obtain⟨b,aO,aI,ev,_,_,ab⟩:=(V HV wr A).place f6J;simp only[Value.slice.injEq]at ev;obtain⟨rfl,_,rfl⟩:=ev;obtain⟨x0,x1,x2,x3,⟨vt,x4,aw⟩,x5,x6,x7⟩:=ab k H;obtain⟨ae,L,rfl,_,_⟩:=aw.shape;have g:∀o,Bw wr (wr.alloc o):=fun o=>(b0r).alloc (l0r _) _;have C:∀o,Below (d.heap.size+1) (d.alloc (.cells #[.slice P f.length Z,.slice M Y.length D,.map (some (Q.heap.size+1))] 125)) (wr.alloc o):=fun o=>(V S).trans ((g o).mono (by have:=(V S).size;rw[z]at this;exact f6J));have KK:=O (V aB k _ (wr.alloc (.cells #[.int .i64 (l.getD k Cn.none).kind,.int .i64 (l.getD k Cn.none).lo,.int .i64 (l.getD k Cn.none).hi,.int .i64 (l.getD k Cn.none).n,.slice ae (l.getD k Cn.none).to.length L,.string (l.getD k Cn.none).name,.string (l.getD k Cn.none).other,.float .f64 (l.getD k Cn.none).wt] 67)) H (x0b B (g _)) (aw.below (g _)));obtain⟨y0,y1,y2⟩:=V aC _ (C (.cells #[.int .i64 (l.getD k Cn.none).kind,.int .i64 (l.getD k Cn.none).lo,.int .i64 (l.getD k Cn.none).hi,.int .i64 (l.getD k Cn.none).n,.slice ae (l.getD k Cn.none).to.length L,.string (l.getD k Cn.none).name,.string (l.getD k Cn.none).other,.float .f64 (l.getD k Cn.none).wt] 67));have u:=O (C (.cells #[.int .i64 (l.getD k Cn.none).kind,.int .i64 (l.getD k Cn.none).lo,.int .i64 (l.getD k Cn.none).hi,.int .i64 (l.getD k Cn.none).n,.slice ae (l.getD k Cn.none).to.length L,.string (l.getD k Cn.none).name,.string (l.getD k Cn.none).other,.float .f64 (l.getD k Cn.none).wt] 67));have I:Hid (Cn.record l k (l.getD k Cn.none)≠0->res=(k,Cn.record l k (l.getD k Cn.none))):=fun h=>(V K).trans (Cn.z0z H h);have az:Hid (Cn.record l k (l.getD k Cn.none)=0->res=Cn.x5K l (k+1)):=fun h=>(V K).trans (Cn.y6x H h);have ay:=(V S).size;rw[z]at ay;unfold recV at KK;generalize Cn.record l k (l.getD k Cn.none)=y at *;generalize l.getD k Cn.none=r at *;have aL:∀W a m,(store a (.float .f64 r.wt) m).run prog W=stored prog W a (.float .f64 r.wt) m:=fun W a m=>run_store prog W a _ m rfl;go_wp2_with fail;refine c0m KK fun G N=>?_;have ag:Hid (Below (d.heap.size+1) (d.alloc (.cells #[.slice P f.length Z,.slice M Y.length D,.map (some (Q.heap.size+1))] 125)) G):=(V u).trans (N.mono (by have:=(V u).size;rw[z]at this;exact this));have p:Hid (Bw w G):=x0b (V af) (V am G (V ag));by_cases U:y=0
    ·have HN:=O (V az U);obtain rfl:y=0:=U;go_wp2
     go_roundw
     case rel=>exact⟨k+1,g2A,f6J,HN,ag⟩
     case measure=>exact g7V
    ·obtain rfl:=V I U;have aN:(y != 0)=true:=(by simp[U]);have T:x4a w (k,y) (.returned (.tuple #[.int .i64 (k:Int),.int .i64 y])) G:=⟨rfl,V p⟩;exact w6E
   ·obtain rfl:k=l.length:=f6J;have aD:=O (V KB wr A);have R:=(V K).trans (V ai);have X:=O R;have F:=O A;generalize Cn.baseA l 78 45=bb at *;go_wp2_with fail;refine c0m aD fun G N=>?_;have ar:=x0b (V F) N;cases bb
    ·obtain rfl:res=(l.length,70):=V X;have T:x4a w (l.length,70) (.returned (.tuple #[.int .i64 (l.length:Int),.int .i64 70])) G:=⟨rfl,ar⟩;exact w6E
    ·obtain rfl:res=(0,0):=V X;have T:x4a w (0,0) (.returned (.tuple #[.int .i64 0,.int .i64 0])) G:=⟨rfl,ar⟩;exact w6E
 ·obtain rfl:=V aj hq;have aM:(x != 0)=true:=(by simp[hq]);have T:x4a w (q1,x) (.returned (.tuple #[.int .i64 (q1:Int),.int .i64 x])) Q:=⟨rfl,E⟩;exact w6E
