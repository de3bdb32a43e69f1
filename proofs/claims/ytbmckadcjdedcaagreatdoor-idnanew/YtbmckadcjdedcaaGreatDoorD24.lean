/- CcT67 CcT87 CcV7 CcW7 -/
import Derived.Test.YtbmckadcjdedcaaGreatDoorD25
import Derived.Test.YtbmckadcjdedcaaGreatDoorD22
set_option maxHeartbeats 16000000
set_option maxRecDepth 20000
namespace Go.Proofs.YtbmckadcjdedcaaGreatDoor
open Go.Proofs.Tryz
open Go.RowKit
section
variable{p:Prop}
theorem m8N(h:p:=by exact⟨cell_of (j:=0) u s5q,cell_of (j:=1) u G0Z,cell_of (j:=2) u V3Y,cell_of (j:=3) u e8d,cell_of (j:=4) u e2Z,cell_of (j:=5) u i3Z,cell_of (j:=6) u F4N,cell_of (j:=7) u U3A,cell_of (j:=0) J T7e,cell_of (j:=1) J (by show 1<3;exact f6J),cell_of (j:=2) J U4w,t⟩):p:=h
theorem W4c(h:p:=by show((w.heap.push _).push _)[w.heap.size+1]?=_;rw[Array.getElem?_push];simp):p:=h
theorem S1J(h:p:=by(intro w hSw;obtain⟨s0,s1,s2,s3,s4,s5,s6,s7,s8,s9,k,m⟩:=(congrFun H _).mpr hSw;go_simp)):p:=h
theorem v5J(h:p:=by(intro w hSw;obtain⟨s0,s1,s2,Y,F,s5,s6,s7,G,s9,k,m⟩:=(congrFun H _).mpr hSw;go_simp)):p:=h
theorem s3k(h:p:=by rw[<- n];exact((b0r).alloc (l0r _) _).alloc M7N _):p:=h
theorem U7J(h:p:=by go_wp2;go_ret;exact T):p:=h
end
theorem z9j(l cs b:List Rec)(cv ov:Value)(v i:Nat)(lo hi I:Int)(C:List Int)(Z M:ByteArray)(wt:Nat)(vt:Value)(w:World)(h:Idx l w cv ov cs b)(X:Sk .i32 w vt C)(a:¬lo<128) :
  Calls prog 84 #[xV cv ov (.map (some v)),.int .i64 (i:Int),recV (⟨6,lo,hi,I,C,Z,M,wt⟩:Rec) vt] w (IntB w (if touches (⟨6,lo,hi,I,C,Z,M,wt⟩:Rec)=true then 71 else 0)):=by
 obtain⟨p,D,rfl,_,_⟩:=h.rc.shape;obtain⟨P,B,rfl,_,_⟩:=h.ro.shape;obtain⟨s,L,rfl,_,_⟩:=X.shape;obtain⟨Q,n⟩:∃Q,((w.alloc (.cells #[.slice p cs.length D,.slice P b.length B,.map (some v)] 125)).alloc (.cells #[.int .i64 6,.int .i64 lo,.int .i64 hi,.int .i64 I,.slice s C.length L,.string Z,.string M,.float .f64 wt] 67))=Q:=⟨_,rfl⟩;have U:Bw w Q:=s3k;have ae:Q.heap.size=w.heap.size+2:=by rw[<- n];exact M7N
 have r:Q.heap[w.heap.size]?=some (.cells #[.slice p cs.length D,.slice P b.length B,.map (some v)] 125 (0,0)):=by
  rw[<- n];exact n9Y
 have ab:Q.heap[w.heap.size+1]?=some (.cells #[.int .i64 6,.int .i64 lo,.int .i64 hi,.int .i64 I,.slice s C.length L,.string Z,.string M,.float .f64 wt] 67 (0,0)):=by
  rw[<- n];exact W4c
 have x:Hid (∀W:World,Bw Q W->Bw w W):=fun W t=>U.trans (t.mono f6J);obtain⟨SP,H⟩:∃SP:World->Prop,(fun W=>(W.cell? ⟨w.heap.size+1,0,none⟩=some (.int .i64 6)/\W.cell? ⟨w.heap.size+1,1,none⟩=some (.int .i64 lo)/\W.cell? ⟨w.heap.size+1,2,none⟩=some (.int .i64 hi)/\W.cell? ⟨w.heap.size+1,3,none⟩=some (.int .i64 I)/\W.cell? ⟨w.heap.size+1,4,none⟩=some (.slice s C.length L)/\W.cell? ⟨w.heap.size+1,5,none⟩=some (.string Z)/\W.cell? ⟨w.heap.size+1,6,none⟩=some (.string M)/\W.cell? ⟨w.heap.size+1,7,none⟩=some (.float .f64 wt)/\W.cell? ⟨w.heap.size,0,none⟩=some (.slice p cs.length D)/\W.cell? ⟨w.heap.size,1,none⟩=some (.slice P b.length B)/\W.cell? ⟨w.heap.size,2,none⟩=some (.map (some v))/\Hid (Bw Q W)))=SP:=⟨_,rfl⟩
 have c:Hid (∀W:World,Bw Q W->SP W):=fun W t=>by
  rw[<- H];have J:=(t.block (w.heap.size) f6J).trans r;have u:=(t.block (w.heap.size+1) f6J).trans ab;exact m8N
 have o:Hid (∀W:World,Calls prog 129 #[.agg #[.int .i64 6,.int .i64 lo,.int .i64 hi,.int .i64 I,.slice s C.length L,.string Z,.string M,.float .f64 wt]] W (x0c W (touches (⟨6,lo,hi,I,C,Z,M,wt⟩:Rec)))):=fun W=>x3S (⟨6,lo,hi,I,C,Z,M,wt⟩:Rec) _ _ _ W;have q:Bw Q Q.drew:=x0k ⟨1,rfl⟩;have y:=O (V c _ q);have N:Hid (∀W z,Bw Q W->IntB w z (.returned (.int .i64 z)) W):=fun W z t=>⟨rfl,V x W t⟩;have d:=O (V o Q.drew);generalize touches (⟨6,lo,hi,I,C,Z,M,wt⟩:Rec)=tc at *;subst n;unfold xV recV;clear r ab U h X;cases tc
 ·rw[if_neg e8P];go_enter func84,ntmps84;go_wp2;refine wp_region_held_drew (S:=fun R=>SP R) f4y (V y) (fun hHeld=>?_);refine tk9 0 (.agg #[.int .i64 6,.int .i64 lo,.int .i64 hi,.int .i64 I,.slice s C.length L,.string Z,.string M,.float .f64 wt]) ?_ (hy:=v5J);refine rd9 1 fun K hK=>?_;go_simp;refine c0m d fun f E=>?_;have g:=x0b q E;have A:=O (V c f g);refine hK.out _ _ ?_ (fun hHeld=>?_)
  ·exact V A
  clear hK K
  try simp only[Act.put,sa9,sb9,sc9]
  refine tk9 2 (.bool false) ?_;refine tk9 3 (.bool false) ?_;refine tk9 4 (.bool false) ?_;refine tn9 5 ?_;refine tn9 6 ?_;refine tn9 7 ?_;refine tn9 8 ?_;refine tn9 9 ?_;refine tn9 10 ?_;refine tn9 11 ?_;refine tn9 12 ?_;refine tn9 13 ?_;refine tk9 14 (.bool false) ?_;refine tk9 15 (.bool false) ?_;refine tk9 16 (.bool false) ?_;refine wpAnyH_done f4y ?_ _;go_wp2;refine wp_region_held_drew (S:=fun _=>True) f4y trivial (fun hHeld=>?_);refine tk9 0 (.bool false) ?_;refine tk9 1 (.bool false) ?_;refine tn9 2 ?_;refine tn9 3 ?_;refine tn9 4 ?_;refine tn9 5 ?_;refine tn9 6 ?_;refine tn9 7 ?_;refine tn9 8 ?_;refine tn9 9 ?_;refine tn9 10 ?_;refine tn9 11 ?_;refine tn9 12 ?_;refine tn9 13 ?_;refine tn9 14 ?_;refine tn9 15 ?_;refine tn9 16 ?_;refine tn9 17 ?_;refine tn9 18 ?_;refine tn9 19 ?_;refine tn9 20 ?_;refine tn9 21 ?_;refine tn9 22 ?_;refine tn9 23 ?_;refine tk9 24 (.bool false) ?_;refine wpAnyH_done f4y ?_ _;have T:=V N f.drew 0 (x0b g (x0k ⟨1,rfl⟩));clear c y N o d A g hHeld;exact U7J
 ·rw[if_pos rfl];go_enter func84,ntmps84;go_wp2;refine wp_region_held_drew (S:=fun R=>SP R) f4y (V y) (fun hHeld=>?_);refine tk9 0 (.agg #[.int .i64 6,.int .i64 lo,.int .i64 hi,.int .i64 I,.slice s C.length L,.string Z,.string M,.float .f64 wt]) ?_ (hy:=v5J);refine rd9 1 fun K hK=>?_;go_simp;refine c0m d fun f E=>?_;have g:=x0b q E;have A:=O (V c f g);refine hK.out _ _ ?_ (fun hHeld=>?_)
  ·exact V A
  clear hK K
  try simp only[Act.put,sa9,sb9,sc9]
  refine tk9 2 (.bool true) ?_;refine tn9 3 ?_;refine tn9 4 ?_;refine tn9 5 ?_;refine tn9 6 ?_;refine tn9 7 ?_;refine tn9 8 ?_;refine tn9 9 ?_;refine tn9 10 ?_;refine tn9 11 ?_;refine tn9 12 ?_;refine tn9 13 ?_;refine tn9 14 ?_;refine tk9 15 (.bool true) ?_;refine tk9 16 (.bool true) ?_;refine wpAnyH_done f4y ?_ _;have T:=V N f 71 g;clear c y N o d A g hHeld;exact U7J
theorem z9l(l cs b:List Rec)(cv ov:Value)(v i:Nat)(lo hi I:Int)(C:List Int)(Z M:ByteArray)(wt:Nat)(vt:Value)(w:World)(Y:Glob w)(h:Idx l w cv ov cs b)(X:Sk .i32 w vt C)(a:¬lo<128)(ae:Rune lo) :
  Calls prog 84 #[xV cv ov (.map (some v)),.int .i64 (i:Int),recV (⟨8,lo,hi,I,C,Z,M,wt⟩:Rec) vt] w (IntB w (if touches (⟨8,lo,hi,I,C,Z,M,wt⟩:Rec)=true then 71 else Cn.wfull l lo)):=by
 obtain⟨p,D,rfl,_,_⟩:=h.rc.shape;obtain⟨P,B,rfl,_,_⟩:=h.ro.shape;obtain⟨s,L,rfl,_,_⟩:=X.shape;obtain⟨Q,n⟩:∃Q,((w.alloc (.cells #[.slice p cs.length D,.slice P b.length B,.map (some v)] 125)).alloc (.cells #[.int .i64 8,.int .i64 lo,.int .i64 hi,.int .i64 I,.slice s C.length L,.string Z,.string M,.float .f64 wt] 67))=Q:=⟨_,rfl⟩;have U:Bw w Q:=s3k;have am:Q.heap.size=w.heap.size+2:=by rw[<- n];exact M7N
 have r:Q.heap[w.heap.size]?=some (.cells #[.slice p cs.length D,.slice P b.length B,.map (some v)] 125 (0,0)):=by
  rw[<- n];exact n9Y
 have af:Q.heap[w.heap.size+1]?=some (.cells #[.int .i64 8,.int .i64 lo,.int .i64 hi,.int .i64 I,.slice s C.length L,.string Z,.string M,.float .f64 wt] 67 (0,0)):=by
  rw[<- n];exact W4c
 have x:Hid (∀W:World,Bw Q W->Bw w W):=fun W t=>U.trans (t.mono f6J);obtain⟨SP,H⟩:∃SP:World->Prop,(fun W=>(W.cell? ⟨w.heap.size+1,0,none⟩=some (.int .i64 8)/\W.cell? ⟨w.heap.size+1,1,none⟩=some (.int .i64 lo)/\W.cell? ⟨w.heap.size+1,2,none⟩=some (.int .i64 hi)/\W.cell? ⟨w.heap.size+1,3,none⟩=some (.int .i64 I)/\W.cell? ⟨w.heap.size+1,4,none⟩=some (.slice s C.length L)/\W.cell? ⟨w.heap.size+1,5,none⟩=some (.string Z)/\W.cell? ⟨w.heap.size+1,6,none⟩=some (.string M)/\W.cell? ⟨w.heap.size+1,7,none⟩=some (.float .f64 wt)/\W.cell? ⟨w.heap.size,0,none⟩=some (.slice p cs.length D)/\W.cell? ⟨w.heap.size,1,none⟩=some (.slice P b.length B)/\W.cell? ⟨w.heap.size,2,none⟩=some (.map (some v))/\Hid (Bw Q W)))=SP:=⟨_,rfl⟩
 have c:Hid (∀W:World,Bw Q W->SP W):=fun W t=>by
  rw[<- H];have J:=(t.block (w.heap.size) f6J).trans r;have u:=(t.block (w.heap.size+1) f6J).trans af;exact m8N
 have o:Hid (∀W:World,Calls prog 129 #[.agg #[.int .i64 8,.int .i64 lo,.int .i64 hi,.int .i64 I,.slice s C.length L,.string Z,.string M,.float .f64 wt]] W (x0c W (touches (⟨8,lo,hi,I,C,Z,M,wt⟩:Rec)))):=fun W=>x3S (⟨8,lo,hi,I,C,Z,M,wt⟩:Rec) _ _ _ W;have KW:Hid (∀W:World,Bw Q W->Calls prog 131 #[.agg #[.slice p cs.length D,.slice P b.length B,.map (some v)],.int .i32 lo] W (IntB W (Cn.wfull l lo))):=fun W t=>y1o l cs b _ _ v lo W (Y.on (V x W t)) (h.below (V x W t)) ae
 have aj:IntKind.i32.wrap lo=lo:=by
  unfold Rune at ae;exact t7M
 have q:Bw Q Q.drew:=x0k ⟨1,rfl⟩;have y:=O (V c _ q);have N:Hid (∀W z,Bw Q W->IntB w z (.returned (.int .i64 z)) W):=fun W z t=>⟨rfl,V x W t⟩;have d:=O (V o Q.drew);generalize touches (⟨8,lo,hi,I,C,Z,M,wt⟩:Rec)=tc,Cn.wfull l lo=G at *;subst n;unfold xV recV;clear r af U h X Y;cases tc
 ·rw[if_neg e8P];go_enter func84,ntmps84;go_wp2;refine wp_region_held_drew (S:=fun R=>SP R) f4y (V y) (fun hHeld=>?_);refine tk9 0 (.agg #[.int .i64 8,.int .i64 lo,.int .i64 hi,.int .i64 I,.slice s C.length L,.string Z,.string M,.float .f64 wt]) ?_ (hy:=S1J);refine rd9 1 fun K hK=>?_;go_simp;refine c0m d fun f E=>?_;have g:=x0b q E;have A:=O (V c f g);refine hK.out _ _ ?_ (fun hHeld=>?_)
  ·exact V A
  clear hK K
  try simp only[Act.put,sa9,sb9,sc9]
  refine tk9 2 (.bool false) ?_;refine tk9 3 (.bool false) ?_;refine tk9 4 (.bool false) ?_;refine tn9 5 ?_;refine tn9 6 ?_;refine tn9 7 ?_;refine tn9 8 ?_;refine tn9 9 ?_;refine tn9 10 ?_;refine tn9 11 ?_;refine tn9 12 ?_;refine tn9 13 ?_;refine tk9 14 (.bool false) ?_;refine tk9 15 (.bool false) ?_;refine tk9 16 (.bool false) ?_;refine wpAnyH_done f4y ?_ _;obtain⟨q0,q1,q2,q3,q4,q5,q6,q7,q8,q9,ag,ai⟩:=(congrFun H _).mpr (V A);have K2:=O (V KW f g);clear A y o d KW hHeld;go_wp2_with fail;refine c0m K2 fun W2 F=>?_;have ab:=x0b g F;clear K2 F;by_cases hz:G=0
  ·subst hz;go_wp2;refine wp_region_held_drew (S:=fun _=>True) f4y trivial (fun hHeld=>?_);refine tk9 0 (.bool false) ?_;refine tk9 1 (.bool false) ?_;refine tn9 2 ?_;refine tn9 3 ?_;refine tn9 4 ?_;refine tn9 5 ?_;refine tn9 6 ?_;refine tn9 7 ?_;refine tn9 8 ?_;refine tn9 9 ?_;refine tn9 10 ?_;refine tn9 11 ?_;refine tn9 12 ?_;refine tn9 13 ?_;refine tn9 14 ?_;refine tn9 15 ?_;refine tn9 16 ?_;refine tn9 17 ?_;refine tn9 18 ?_;refine tn9 19 ?_;refine tn9 20 ?_;refine tn9 21 ?_;refine tn9 22 ?_;refine tn9 23 ?_;refine tk9 24 (.bool false) ?_;refine wpAnyH_done f4y ?_ _;have T:=V N W2.drew 0 (x0b ab (x0k ⟨1,rfl⟩));clear c N ab hHeld g q0 q1 q2 q3 q4 q5 q6 q7 q8 q9 ag ai;exact U7J
  ·have aq:(G != 0)=true:=(by simp[hz]);have T:=V N W2 G ab;clear hz;clear c N ab g q0 q1 q2 q3 q4 q5 q6 q7 q8 q9 ag ai;exact U7J
 ·rw[if_pos rfl];go_enter func84,ntmps84;go_wp2;refine wp_region_held_drew (S:=fun R=>SP R) f4y (V y) (fun hHeld=>?_);refine tk9 0 (.agg #[.int .i64 8,.int .i64 lo,.int .i64 hi,.int .i64 I,.slice s C.length L,.string Z,.string M,.float .f64 wt]) ?_ (hy:=S1J);refine rd9 1 fun K hK=>?_;go_simp;refine c0m d fun f E=>?_;have g:=x0b q E;have A:=O (V c f g);refine hK.out _ _ ?_ (fun hHeld=>?_)
  ·exact V A
  clear hK K
  try simp only[Act.put,sa9,sb9,sc9]
  refine tk9 2 (.bool true) ?_;refine tn9 3 ?_;refine tn9 4 ?_;refine tn9 5 ?_;refine tn9 6 ?_;refine tn9 7 ?_;refine tn9 8 ?_;refine tn9 9 ?_;refine tn9 10 ?_;refine tn9 11 ?_;refine tn9 12 ?_;refine tn9 13 ?_;refine tn9 14 ?_;refine tk9 15 (.bool true) ?_;refine tk9 16 (.bool true) ?_;refine wpAnyH_done f4y ?_ _;have T:=V N f 71 g;clear c y N o d KW A g hHeld;exact U7J
namespace Cn
def x5F(rs:List Rec)(k:Nat):Nat×Int:=match x0U rs k (rs.drop k)with
 | some x=>x
 | Option.none=>if baseA rs 78 45 then(0,0)else(rs.length,70)
theorem y9Y{rs:List Rec}{k:Nat}(G:k<rs.length)(h:record rs k (rs.getD k none)≠0):x5F rs k=(k,record rs k (rs.getD k none)):=by
 have e:rs.getD k none=rs[k]:=(by grind);rw[e]at h ⊢;unfold x5F;rw[List.drop_eq_getElem_cons G,x0U,if_neg h]
theorem y5U{rs:List Rec}{k:Nat}(G:k<rs.length)(h:record rs k (rs.getD k none)=0):x5F rs k=x5F rs (k+1):=by
 have e:rs.getD k none=rs[k]:=(by grind);rw[e]at h;unfold x5F;rw[List.drop_eq_getElem_cons G,x0U,if_pos h]
theorem y9X(rs:List Rec):x5F rs rs.length=if baseA rs 78 45 then(0,0)else(rs.length,70):=by
 unfold x5F;rw[List.drop_length,x0U]
theorem y4r{rs:List Rec}(h:(check6 rs).2≠0):check rs=check6 rs:=by unfold check;rw[if_pos h]
theorem y6P{rs:List Rec}(h:(check6 rs).2=0):check rs=x5F rs 0:=by unfold check x5F;rw[if_neg (fun e=>e h)];rfl
end Cn
theorem z0v(l cs b:List Rec)(cv ov:Value)(v i:Nat)(vt:Value)(w:World)(Y:Glob w)(h:Idx l w cv ov cs b)(A:PAt w v (Cn.firstP l))(hi:i<l.length)(Q:Sk .i32 w vt (l.getD i Cn.none).to) :
  Calls prog 84 #[xV cv ov (.map (some v)),.int .i64 (i:Int),recV (l.getD i Cn.none) vt] w (IntB w (Cn.record l i (l.getD i Cn.none))):=by
 obtain⟨S,E⟩:=Cn.x1I h.ok;have m:l.getD i Cn.none∈l:=n7B;have u:=E _ m;have c:=Cn.z2j (l:=l) (i:=i) hi;generalize l.getD i Cn.none=r at *;by_cases G:r.kind=6\/r.kind=7\/r.kind=8
 ·have f:r.kind≠15:=f6J;obtain⟨T,o,d⟩:=Cn.x0o u f;have N:Rune r.lo:=(by unfold Rune;exact f6J);by_cases a:r.lo<128
  ·rw[Cn.y5A u G a];obtain⟨p,D,rfl,_,_⟩:=h.rc.shape;obtain⟨P,B,rfl,_,_⟩:=h.ro.shape;obtain⟨s,L,rfl,_,_⟩:=Q.shape;exact z2R _ _ _ _ _ _ _ _ _ _ _ r.kind r.lo r.hi r.n r.to r.name r.other r.wt w G a
  ·obtain⟨J,lo,g,I,R,Z,M,X⟩:=r;rcases G with W | k7 | k8
   ·simp only at W;subst W;have:=z9j l cs b cv ov v i lo g I R Z M X vt w h Q a;by_cases K:touches ⟨6,lo,g,I,R,Z,M,X⟩=true
    ·rw[if_pos K]at this;rw[Cn.x2z (.inl rfl) a (by rw[K];rfl)];exact this
    ·rw[if_neg K]at this;rw[Cn.x3P (.inl rfl) a R6d,if_pos rfl];exact this
   ·simp only at k7;subst k7;obtain⟨⟨k,U⟩,j⟩:=Cn.x0t (Cn.x0A u rfl).2.2;simp only at k U j
    have H:Rune (R.getD 0 0):=by
     have:=o0d (j (R.getD 0 0) (x5S f6J));unfold Rune;omega
    have x:Rune (R.getD 1 0):=by
     have:=o0d (j (R.getD 1 0) (x5S f6J));unfold Rune;omega
    have:=z9k l cs b cv ov v i lo g I R Z M X vt w Y h Q a N f6J H x A;by_cases K:(touches ⟨7,lo,g,I,R,Z,M,X⟩||makes (R.getD 0 0) (R.getD 1 0))=true
    ·rw[if_pos K]at this;rw[Cn.x2z (.inr (.inl rfl)) a R6d];exact this
    ·rw[if_neg K]at this;rw[Cn.x3P (.inr (.inl rfl)) a R6d,if_neg (e8N:¬(7:Int)=6)];by_cases t:Cn.wfull l lo≠0
     ·rw[if_pos t]at this;rw[if_pos t];exact this
     ·rw[if_neg t]at this;rw[if_neg t,c rfl];by_cases C:Cn.bad7 l i ⟨7,lo,g,I,R,Z,M,X⟩=true
      ·have F:=C;unfold Cn.bad7 at F;rw[if_pos F]at this;rw[if_pos ⟨rfl,by rw[C];rfl⟩];exact this
      ·have F:=C;unfold Cn.bad7 at F;rw[if_neg F]at this;rw[if_neg (fun q=>C (by simpa using q.2))];exact this
   ·simp only at k8;subst k8;have:=z9l l cs b cv ov v i lo g I R Z M X vt w Y h Q a N;by_cases K:touches ⟨8,lo,g,I,R,Z,M,X⟩=true
    ·rw[if_pos K]at this;rw[Cn.x2z (.inr (.inr rfl)) a (by rw[K];rfl)];exact this
    ·rw[if_neg K]at this
     have e:Cn.record l i ⟨8,lo,g,I,R,Z,M,X⟩=Cn.wfull l lo:=by
      rw[Cn.x3P (.inr (.inr rfl)) a R6d,if_neg (e8N:¬(8:Int)=6)];by_cases t:Cn.wfull l lo≠0
      ·rw[if_pos t]
      ·rw[if_neg t,if_neg (fun q=>absurd q.1 (e8N:¬(8:Int)=7))];exact(Decidable.not_not.1 t).symm
     rw[e];exact this
 ·rw[Cn.y2s f6J f6J f6J];obtain⟨p,D,rfl,_,_⟩:=h.rc.shape;obtain⟨P,B,rfl,_,_⟩:=h.ro.shape;obtain⟨s,L,rfl,_,_⟩:=Q.shape;exact z0u _ _ _ _ _ _ _ _ _ _ _ r.kind r.lo r.hi r.n r.to r.name r.other r.wt w f6J f6J f6J
theorem z6S:z6A:=by
 intro v l w Y N;have K6:=O (y6Q v l w Y N);have U:Hid ((Cn.check6 l).2≠0->Cn.check l=Cn.check6 l):=Cn.y4r;have aB:Hid ((Cn.check6 l).2=0->Cn.check l=Cn.x5F l 0/\∀W,Bw w W->Calls prog 83 #[v] W (y6h W l)):=fun h=>⟨Cn.y6P h,fun W t=>y0B v l W (N.below t) h⟩;have HV:Hid (∀W,Bw w W->Rcs W v l):=fun W t=>N.below t;have HG:Hid (∀W,Bw w W->Glob W):=fun W t=>Y.on t;have KB:Hid (∀W,Bw w W->Calls prog 85 #[v] W (x0c W (Cn.baseA l 78 45))):=fun W t=>y1Y v l W (Y.on t) (N.below t);have M:=O (Cn.y9X l);have aH:=O (fun i hi=>N.fit (i:=i) hi);generalize Cn.check l=res,Cn.check6 l=q at *;obtain⟨q1,q2⟩:=q;have aJ:=N.1;obtain⟨ao,aK,rfl,_,_⟩:=N.shape;go_enter func45,ntmps45;go_wp2_with fail;refine c0m K6 fun Q ag=>?_;by_cases hq:q2=0
 ·obtain⟨R,ay⟩:=V aB hq;obtain rfl:q2=0:=hq;have KI:=O (ay Q ag);have ab:=O R;go_wp2_with fail;refine(V KI).mono ?_;rintro e A ⟨cv,ov,f,os,rfl,hI,hP,aF⟩;have S:=x0b ag aF;obtain⟨p,D,rfl,_,_⟩:=hI.rc.shape;obtain⟨P,B,rfl,_,_⟩:=hI.ro.shape;unfold xV;have z:Bw A (A.alloc (.cells #[.slice p f.length D,.slice P os.length B,.map (some (Q.heap.size+1))] 125)):=(b0r).alloc (l0r _) _
  have aG:(A.alloc (.cells #[.slice p f.length D,.slice P os.length B,.map (some (Q.heap.size+1))] 125)).heap[A.heap.size]?=some (.cells #[.slice p f.length D,.slice P os.length B,.map (some (Q.heap.size+1))] 125 (0,0)):=by
   show(A.heap.push _)[A.heap.size]?=_;simp
  have c:(A.alloc (.cells #[.slice p f.length D,.slice P os.length B,.map (some (Q.heap.size+1))] 125)).heap.size=A.heap.size+1:=M7L;have ar:Hid (∀W,Below (A.heap.size+1) (A.alloc (.cells #[.slice p f.length D,.slice P os.length B,.map (some (Q.heap.size+1))] 125)) W->Bw A W):=fun W t=>z.trans (t.mono f6J)
  have aC:Hid (∀W,Below (A.heap.size+1) (A.alloc (.cells #[.slice p f.length D,.slice P os.length B,.map (some (Q.heap.size+1))] 125)) W->W.cell? ⟨A.heap.size,0,none⟩=some (.slice p f.length D)/\W.cell? ⟨A.heap.size,1,none⟩=some (.slice P os.length B)/\W.cell? ⟨A.heap.size,2,none⟩=some (.map (some (Q.heap.size+1)))):=fun W t=>by
   have J:=(t.block (A.heap.size) f6J).trans aG;exact⟨cell_of (j:=0) J T7e,cell_of (j:=1) J f2P,cell_of (j:=2) J U4w⟩
  have I:Hid (∀i vt W,i<l.length->Bw A W->Sk .i32 W vt (l.getD i Cn.none).to->Calls prog 84 #[.agg #[.slice p f.length D,.slice P os.length B,.map (some (Q.heap.size+1))],.int .i64 (i:Int),recV (l.getD i Cn.none) vt] W (IntB W (Cn.record l i (l.getD i Cn.none)))):=fun i vt W hi t hs=>by
   obtain⟨es,cl,p1,p2⟩:=hP;exact z0v l f os _ _ _ i vt W (V HG W (x0b S t)) (hI.below t) ⟨es,cl,by rw[t.block _ (x0B p1)];exact p1,p2⟩ hi hs
  have d:=O S;go_wp2;go_loopw[7,8,9,23] (fun _ _ _ iv wr=>∃k:Nat,iv=.int .i64 k/\k<=l.length/\Hid (res=Cn.x5F l k)/\Hid (Below (A.heap.size+1) (A.alloc (.cells #[.slice p f.length D,.slice P os.length B,.map (some (Q.heap.size+1))] 125)) wr)) (fun _ _ _ iv _=>l.length-(intOf iv).toNat)
  case atStart=>exact⟨0,rfl,f6J,ab,b0r⟩
  case round =>
   obtain⟨k,rfl,hk,ab,ae⟩:=hrel;have af:=V ar wr (V ae);have C:Bw w wr:=x0b (V d) af;by_cases H:k<l.length
   ·obtain⟨b,aO,aI,ev,_,_,G⟩:=(V HV wr C).place f6J;simp only[Value.slice.injEq]at ev;obtain⟨rfl,_,rfl⟩:=ev;obtain⟨x0,x1,x2,x3,⟨vt,x4,az⟩,x5,x6,x7⟩:=G k H;obtain⟨s,L,rfl,_,_⟩:=az.shape;have g:∀o,Bw wr (wr.alloc o):=fun o=>(b0r).alloc (l0r _) _;have E:∀o,Below (A.heap.size+1) (A.alloc (.cells #[.slice p f.length D,.slice P os.length B,.map (some (Q.heap.size+1))] 125)) (wr.alloc o):=fun o=>(V ae).trans ((g o).mono (by have:=(V ae).size;rw[c]at this;exact f6J));have KK:=O (V I k _ (wr.alloc (.cells #[.int .i64 (l.getD k Cn.none).kind,.int .i64 (l.getD k Cn.none).lo,.int .i64 (l.getD k Cn.none).hi,.int .i64 (l.getD k Cn.none).n,.slice s (l.getD k Cn.none).to.length L,.string (l.getD k Cn.none).name,.string (l.getD k Cn.none).other,.float .f64 (l.getD k Cn.none).wt] 67)) H (x0b af (g _)) (az.below (g _)));obtain⟨y0,y1,y2⟩:=V aC _ (E (.cells #[.int .i64 (l.getD k Cn.none).kind,.int .i64 (l.getD k Cn.none).lo,.int .i64 (l.getD k Cn.none).hi,.int .i64 (l.getD k Cn.none).n,.slice s (l.getD k Cn.none).to.length L,.string (l.getD k Cn.none).name,.string (l.getD k Cn.none).other,.float .f64 (l.getD k Cn.none).wt] 67));have u:=O (E (.cells #[.int .i64 (l.getD k Cn.none).kind,.int .i64 (l.getD k Cn.none).lo,.int .i64 (l.getD k Cn.none).hi,.int .i64 (l.getD k Cn.none).n,.slice s (l.getD k Cn.none).to.length L,.string (l.getD k Cn.none).name,.string (l.getD k Cn.none).other,.float .f64 (l.getD k Cn.none).wt] 67));have aq:Hid (Cn.record l k (l.getD k Cn.none)≠0->res=(k,Cn.record l k (l.getD k Cn.none))):=fun h=>(V ab).trans (Cn.y9Y H h);have K:Hid (Cn.record l k (l.getD k Cn.none)=0->res=Cn.x5F l (k+1)):=fun h=>(V ab).trans (Cn.y5U H h);have F:=(V ae).size;rw[c]at F;unfold recV at KK;generalize Cn.record l k (l.getD k Cn.none)=y at *;generalize l.getD k Cn.none=r at *;have aL:∀W a m,(store a (.float .f64 r.wt) m).run prog W=stored prog W a (.float .f64 r.wt) m:=fun W a m=>run_store prog W a _ m rfl;go_wp2_with fail;refine c0m KK fun X ai=>?_;have aj:Hid (Below (A.heap.size+1) (A.alloc (.cells #[.slice p f.length D,.slice P os.length B,.map (some (Q.heap.size+1))] 125)) X):=(V u).trans (ai.mono (by have:=(V u).size;rw[c]at this;exact this));have aA:Hid (Bw w X):=x0b (V d) (V ar X (V aj));by_cases x:y=0
    ·have HN:=O (V K x);obtain rfl:y=0:=x;go_wp2
     go_roundw
     case rel=>exact⟨k+1,g2A,f6J,HN,aj⟩
     case measure=>exact g7V
    ·obtain rfl:=V aq x;have aN:(y != 0)=true:=(by simp[x]);have T:x3U w (k,y) (.returned (.tuple #[.int .i64 (k:Int),.int .i64 y])) X:=⟨rfl,V aA⟩;exact w6D
   ·obtain rfl:k=l.length:=f6J;have aD:=O (V KB wr C);have R:=(V ab).trans (V M);have aw:=O R;have am:=O C;generalize Cn.baseA l 78 45=bb at *;go_wp2_with fail;refine c0m aD fun X ai=>?_;have Z:=x0b (V am) ai;cases bb
    ·obtain rfl:res=(l.length,70):=V aw;have T:x3U w (l.length,70) (.returned (.tuple #[.int .i64 (l.length:Int),.int .i64 70])) X:=⟨rfl,Z⟩;exact w6D
    ·obtain rfl:res=(0,0):=V aw;have T:x3U w (0,0) (.returned (.tuple #[.int .i64 0,.int .i64 0])) X:=⟨rfl,Z⟩;exact w6D
 ·obtain rfl:=V U hq;have aM:(q2 != 0)=true:=(by simp[hq]);have T:x3U w (q1,q2) (.returned (.tuple #[.int .i64 (q1:Int),.int .i64 q2])) Q:=⟨rfl,ag⟩;exact w6D
