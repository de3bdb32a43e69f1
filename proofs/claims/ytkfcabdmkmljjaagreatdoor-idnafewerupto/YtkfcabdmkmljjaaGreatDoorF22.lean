/- Lemmas. -/
import Derived.Test.YtkfcabdmkmljjaaGreatDoorF13
import Derived.Test.YtkfcabdmkmljjaaGreatDoorF20
set_option maxHeartbeats 16000000
set_option maxRecDepth 20000
namespace Go.Proofs.YtkfcabdmkmljjaaGreatDoor
open Go.Proofs.Tryz
open Go.RowKit
section
variable{p:Prop}
theorem f7s(h:p:=by(intro w hSw;obtain⟨rs,D,n,N,L⟩:=(congrFun G _).mpr hSw;obtain⟨T,A,H,I,b,j,s6,a⟩:=cells8 rs;obtain⟨s8,u,k⟩:=cells3 D;go_simp)):p:=h
theorem R6c(h:p:=by simpa using K):p:=h
theorem s7Z(h:p:=by(intro w hSw;obtain⟨rs,xs,n⟩:=(congrFun G _).mpr hSw;obtain⟨s0,s1,s2,s3,s4,s5,s6,s7⟩:=cells8 rs;obtain⟨s8,s9,k⟩:=cells3 xs;go_simp)):p:=h
theorem u2Y(h:p:=by(intro w hSw;obtain⟨rs,xs,n⟩:=(congrFun G _).mpr hSw;obtain⟨s0,s1,H,s3,s4,j,s6,s7⟩:=cells8 rs;obtain⟨t,u,k⟩:=cells3 xs;go_simp)):p:=h
theorem W4c(h:p:=by show((w.heap.push _).push _)[w.heap.size+1]?=_;rw[Array.getElem?_push];simp):p:=h
theorem P3t(h:p:=by rw[<- D];show((w.heap.push _).push _)[w.heap.size]?=_;rw[Array.getElem?_push,Array.getElem?_push];simp):p:=h
theorem e6m(h:p:=by have HF:=V E q 71 p;clear r x E KT aq KW KM KP ab d m p hHeld HR;exact w0a):p:=h
theorem f9z(h:p:=by rw[<- D];exact((b0r).alloc (l0r _) _).alloc M7M _):p:=h
theorem w9y(h:p:=by clear r x E K3 K4 ar aw ae F hHeld HR d KP ab v am p;exact w0a):p:=h
theorem t7M(h:p:=by simp[IntKind.wrap,IntKind.bits,IntKind.signed];omega):p:=h
end
theorem q1q(l cs s:List Rec)(cv ov:Value)(b i:Nat)(lo hi c:Int)(Y:List Int)(R M:ByteArray)(wt:Nat)(vt:Value)(w:World)(h:Idx l w cv ov cs s)(L:Sk .i32 w vt Y)(N:¬lo<128) :
  Calls prog 92 #[xV cv ov (.map (some b)),.int .i64 (i:Int),recV (⟨6,lo,hi,c,Y,R,M,wt⟩:Rec) vt] w (IntB w (if touches (⟨6,lo,hi,c,Y,R,M,wt⟩:Rec)=true then 71 else 0)):=by
 obtain⟨g,Z,rfl,_,_⟩:=h.rc.shape;obtain⟨P,B,rfl,_,_⟩:=h.ro.shape;obtain⟨d,J,rfl,_,_⟩:=L.shape;obtain⟨Q,D⟩:∃Q,((w.alloc (.cells #[.slice g cs.length Z,.slice P s.length B,.map (some b)] 168)).alloc (.cells #[.int .i64 6,.int .i64 lo,.int .i64 hi,.int .i64 c,.slice d Y.length J,.string R,.string M,.float .f64 wt] 60))=Q:=⟨_,rfl⟩;have f:Bw w Q:=f9z;have ab:Q.heap.size=w.heap.size+2:=by rw[<- D];exact M7M
 have a:Q.heap[w.heap.size]?=some (.cells #[.slice g cs.length Z,.slice P s.length B,.map (some b)] 168 (0,0)):=P3t
 have y:Q.heap[w.heap.size+1]?=some (.cells #[.int .i64 6,.int .i64 lo,.int .i64 hi,.int .i64 c,.slice d Y.length J,.string R,.string M,.float .f64 wt] 60 (0,0)):=by
  rw[<- D];exact W4c
 have o:Hid (∀W:World,Bw Q W->Bw w W):=fun W U=>f.trans (U.mono f6J);obtain⟨v,G⟩:∃v:World->Prop,(fun W=>(W.heap[w.heap.size+1]?=some (.cells #[.int .i64 6,.int .i64 lo,.int .i64 hi,.int .i64 c,.slice d Y.length J,.string R,.string M,.float .f64 wt] 60 (0,0))/\W.heap[w.heap.size]?=some (.cells #[.slice g cs.length Z,.slice P s.length B,.map (some b)] 168 (0,0))/\Hid (Bw Q W)))=v:=⟨_,rfl⟩
 have r:Hid (∀W:World,Bw Q W->v W):=fun W U=>by
  rw[<- G];have A:=(U.block (w.heap.size) f6J).trans a;have hr:=(U.block (w.heap.size+1) f6J).trans y;exact⟨hr,A,U⟩
 have KT:Hid (∀W:World,Calls prog 138 #[.agg #[.int .i64 6,.int .i64 lo,.int .i64 hi,.int .i64 c,.slice d Y.length J,.string R,.string M,.float .f64 wt]] W (x0g W (touches (⟨6,lo,hi,c,Y,R,M,wt⟩:Rec)))):=fun W=>x3O (⟨6,lo,hi,c,Y,R,M,wt⟩:Rec) _ _ _ W;have X:Bw Q Q.drew:=x0i ⟨1,rfl⟩;have x:=O (V r _ X);have E:Hid (∀W z,Bw Q W->IntB w z (.returned (.int .i64 z)) W):=fun W z U=>⟨rfl,V o W U⟩;have I:=O (V KT Q.drew);generalize touches (⟨6,lo,hi,c,Y,R,M,wt⟩:Rec)=tc at *;subst D;unfold xV recV;clear a y f h L;cases tc
 ·rw[if_neg e8P];go_enter func92,ntmps92;go_wp2;refine wp_region_held_drew (S:=fun C=>v C) f4y (V x) (fun hHeld=>?_);refine tk9 0 (.agg #[.int .i64 6,.int .i64 lo,.int .i64 hi,.int .i64 c,.slice d Y.length J,.string R,.string M,.float .f64 wt]) ?_ (hy:=u2Y);refine rd9 1 fun K hK=>?_;go_simp;refine c0m I fun q F=>?_;have p:=bthen X F;have m:=O (V r q p);refine hK.out _ _ ?_ (fun hHeld=>?_)
  ·exact V m
  clear hK K
  try simp only[Act.put,sa9,sb9,sc9]
  refine tk9 2 (.bool false) ?_;refine tk9 3 (.bool false) ?_;refine tk9 4 (.bool false) ?_;refine tn9 5 ?_;refine tn9 6 ?_;refine tn9 7 ?_;refine tn9 8 ?_;refine tn9 9 ?_;refine tn9 10 ?_;refine tn9 11 ?_;refine tn9 12 ?_;refine tn9 13 ?_;refine tk9 14 (.bool false) ?_;refine tk9 15 (.bool false) ?_;refine tk9 16 (.bool false) ?_;refine wpAnyH_done f4y ?_ _;go_wp2;refine wp_region_held_drew (S:=fun _=>True) f4y trivial (fun hHeld=>?_);refine tk9 0 (.bool false) ?_;refine tk9 1 (.bool false) ?_;refine tn9 2 ?_;refine tn9 3 ?_;refine tn9 4 ?_;refine tn9 5 ?_;refine tn9 6 ?_;refine tn9 7 ?_;refine tn9 8 ?_;refine tn9 9 ?_;refine tn9 10 ?_;refine tn9 11 ?_;refine tn9 12 ?_;refine tn9 13 ?_;refine tn9 14 ?_;refine tn9 15 ?_;refine tn9 16 ?_;refine tn9 17 ?_;refine tn9 18 ?_;refine tn9 19 ?_;refine tn9 20 ?_;refine tn9 21 ?_;refine tn9 22 ?_;refine tn9 23 ?_;refine tk9 24 (.bool false) ?_;refine wpAnyH_done f4y ?_ _;have T:=V E q.drew 0 (bthen p (x0i ⟨1,rfl⟩));clear r x E KT I m p hHeld;exact U7J
 ·rw[if_pos rfl];go_enter func92,ntmps92;go_wp2;refine wp_region_held_drew (S:=fun C=>v C) f4y (V x) (fun hHeld=>?_);refine tk9 0 (.agg #[.int .i64 6,.int .i64 lo,.int .i64 hi,.int .i64 c,.slice d Y.length J,.string R,.string M,.float .f64 wt]) ?_ (hy:=u2Y);refine rd9 1 fun K hK=>?_;go_simp;refine c0m I fun q F=>?_;have p:=bthen X F;have m:=O (V r q p);refine hK.out _ _ ?_ (fun hHeld=>?_)
  ·exact V m
  clear hK K
  try simp only[Act.put,sa9,sb9,sc9]
  refine tk9 2 (.bool true) ?_;refine tn9 3 ?_;refine tn9 4 ?_;refine tn9 5 ?_;refine tn9 6 ?_;refine tn9 7 ?_;refine tn9 8 ?_;refine tn9 9 ?_;refine tn9 10 ?_;refine tn9 11 ?_;refine tn9 12 ?_;refine tn9 13 ?_;refine tn9 14 ?_;refine tk9 15 (.bool true) ?_;refine tk9 16 (.bool true) ?_;refine wpAnyH_done f4y ?_ _;have T:=V E q 71 p;clear r x E KT I m p hHeld;exact U7J
theorem q1r(l cs s:List Rec)(cv ov:Value)(mr i:Nat)(lo hi c:Int)(Y:List Int)(nm M:ByteArray)(wt:Nat)(vt:Value)(w:World)(hg:Glob w)(h:Idx l w cv ov cs s)(hs:Sk .i32 w vt Y)(aV:¬lo<128)(aB:Rune lo)(aj:Y.length=2)(aC:Rune (Y.getD 0 0))(f:Rune (Y.getD 1 0))(hp:PAt w mr (Cn.firstP l)) :
  Calls prog 92 #[xV cv ov (.map (some mr)),.int .i64 (i:Int),recV (⟨7,lo,hi,c,Y,nm,M,wt⟩:Rec) vt] w (IntB w (if(touches (⟨7,lo,hi,c,Y,nm,M,wt⟩:Rec)||makes (Y.getD 0 0) (Y.getD 1 0))=true then 71 else if Cn.wfull l lo≠0 then Cn.wfull l lo else if(decide ((Cn.firstP l (Y.getD 0 0) (Y.getD 1 0)).getD 0<(i:Int))||Cn.wpair l lo (Y.getD 0 0) (Y.getD 1 0))=true then 74 else 0)):=by
 obtain⟨g,Z,rfl,_,_⟩:=h.rc.shape;obtain⟨P,B,rfl,_,_⟩:=h.ro.shape;obtain⟨tb,t,J,rfl,_,_,y⟩:=hs.place f6J;have C:=y 0 f6J;have aL:=y 1 f6J;rw[Nat.add_zero]at C;have aD:Hid (Sk .i32 w (.slice (some ⟨tb,t,none⟩) 2 J) Y):=aj ▸ hs;obtain⟨Q,hQ⟩:∃Q,((w.alloc (.cells #[.slice g cs.length Z,.slice P s.length B,.map (some mr)] 168)).alloc (.cells #[.int .i64 7,.int .i64 lo,.int .i64 hi,.int .i64 c,.slice (some ⟨tb,t,none⟩) 2 J,.string nm,.string M,.float .f64 wt] 60))=Q:=⟨_,rfl⟩;have aF:Bw w Q:=(by rw[<- hQ];exact((b0r).alloc (l0r _) _).alloc M7M _);have aX:Q.heap.size=w.heap.size+2:=by rw[<- hQ];exact M7M
 have aK:Q.heap[w.heap.size]?=some (.cells #[.slice g cs.length Z,.slice P s.length B,.map (some mr)] 168 (0,0)):=by
  rw[<- hQ];exact n9Y
 have aJ:Q.heap[w.heap.size+1]?=some (.cells #[.int .i64 7,.int .i64 lo,.int .i64 hi,.int .i64 c,.slice (some ⟨tb,t,none⟩) 2 J,.string nm,.string M,.float .f64 wt] 60 (0,0)):=by
  rw[<- hQ];exact W4c
 have o:Hid (∀W:World,Bw Q W->Bw w W):=fun W U=>aF.trans (U.mono f6J);obtain⟨SP,G⟩:∃SP:World->Prop,(fun W=>(W.heap[w.heap.size+1]?=some (.cells #[.int .i64 7,.int .i64 lo,.int .i64 hi,.int .i64 c,.slice (some ⟨tb,t,none⟩) 2 J,.string nm,.string M,.float .f64 wt] 60 (0,0))/\W.heap[w.heap.size]?=some (.cells #[.slice g cs.length Z,.slice P s.length B,.map (some mr)] 168 (0,0))/\W.cell? ⟨tb,t,none⟩=some (.int .i32 (Y.getD 0 0))/\W.cell? ⟨tb,t+1,none⟩=some (.int .i32 (Y.getD 1 0))/\Hid (Bw Q W)))=SP:=⟨_,rfl⟩
 have r:Hid (∀W:World,Bw Q W->SP W):=fun W U=>by
  rw[<- G];have hx:=(U.block (w.heap.size) f6J).trans aK;have hr:=(U.block (w.heap.size+1) f6J).trans aJ;exact⟨hr,hx,by rw[(V o W U).cell (x0a C)];exact C,by rw[(V o W U).cell (x0a C)];exact aL,U⟩
 have KT:Hid (∀W:World,Calls prog 138 #[.agg #[.int .i64 7,.int .i64 lo,.int .i64 hi,.int .i64 c,.slice (some ⟨tb,t,none⟩) 2 J,.string nm,.string M,.float .f64 wt]] W (x0g W (touches (⟨7,lo,hi,c,Y,nm,M,wt⟩:Rec)))):=fun W=>x3O (⟨7,lo,hi,c,Y,nm,M,wt⟩:Rec) _ _ _ W;have KW:Hid (∀W:World,Bw Q W->Calls prog 140 #[.agg #[.slice g cs.length Z,.slice P s.length B,.map (some mr)],.int .i32 lo] W (IntB W (Cn.wfull l lo))):=fun W U=>y1U l cs s _ _ mr lo W (hg.on (V o W U)) (h.below (V o W U)) aB
 have aW:IntKind.i32.wrap lo=lo:=by
  unfold Rune at aB;exact t7M
 have KM:Hid (∀W:World,Calls prog 139 #[.int .i32 (Y.getD 0 0),.int .i32 (Y.getD 1 0)] W (fun e w'=>e=.returned (.bool (makes (Y.getD 0 0) (Y.getD 1 0)))/\w'=W)):=fun W=>y9M _ _ W;have ab:Hid (∀W:World,Bw Q W->Calls prog 135 #[.agg #[.int .i64 7,.int .i64 lo,.int .i64 hi,.int .i64 c,.slice (some ⟨tb,t,none⟩) 2 J,.string nm,.string M,.float .f64 wt]] W (fun e w'=>e=.returned (pk2 (Y.getD 0 0) (Y.getD 1 0))/\Bw W w')):=fun W U=>x8A (⟨7,lo,hi,c,Y,nm,M,wt⟩:Rec) _ W ((V aD).below (V o W U)) aj;have KP:Hid (∀W:World,Bw Q W->Calls prog 141 #[.agg #[.slice g cs.length Z,.slice P s.length B,.map (some mr)],.int .i32 lo,.int .i32 (Y.getD 0 0),.int .i32 (Y.getD 1 0)] W (x0g W (Cn.wpair l lo (Y.getD 0 0) (Y.getD 1 0)))):=fun W U=>z1E l cs s _ _ mr lo _ _ W (hg.on (V o W U)) (h.below (V o W U)) aB aC f
 have d:Hid (∀W:World,Bw Q W->(Instr.lookup 166 (.map (some mr)) (pk2 (Y.getD 0 0) (Y.getD 1 0)) false).run prog W=.ok (.int .i64 ((Cn.firstP l (Y.getD 0 0) (Y.getD 1 0)).getD 0)) W):=fun W U=>by
  obtain⟨es,cl,q1,q2⟩:=hp;exact(look_ok ⟨es,cl,by rw[(V o W U).block _ (x0G q1)];exact q1,q2⟩ aC f).2
 have X:Bw Q Q.drew:=x0i ⟨1,rfl⟩;have x:=O (V r _ X);have E:Hid (∀W z,Bw Q W->IntB w z (.returned (.int .i64 z)) W):=fun W z U=>⟨rfl,V o W U⟩;have aq:=O (V KT Q.drew);rw[aj];clear aj hs hp aC f y C aL aD;generalize Cn.wpair l lo (Y.getD 0 0) (Y.getD 1 0)=wp,(Cn.firstP l (Y.getD 0 0) (Y.getD 1 0)).getD 0=fp,makes (Y.getD 0 0) (Y.getD 1 0)=mk at *;generalize Y.getD 0 0=pa,Y.getD 1 0=pb at *;unfold pk2 at *;generalize touches (⟨7,lo,hi,c,Y,nm,M,wt⟩:Rec)=tc,Cn.wfull l lo=wf at *;subst hQ;unfold xV recV;clear aK aJ aF h hg;obtain⟨R,hR⟩:∃R,(if(tc||mk)=true then 71 else if wf≠0 then wf else if(decide (fp<(i:Int))||wp)=true then 74 else 0)=R:=⟨_,rfl⟩;rw[hR];have HR:=O hR;clear hR;cases tc
 ·go_enter func92,ntmps92;go_wp2;refine wp_region_held_drew (S:=fun w'=>SP w') f4A (V x) (fun hHeld=>?_);refine tk9 0 (.agg #[.int .i64 7,.int .i64 lo,.int .i64 hi,.int .i64 c,.slice (some ⟨tb,t,none⟩) 2 J,.string nm,.string M,.float .f64 wt]) ?_ (hy:=f7s);refine rd9 1 fun K hK=>?_;go_simp;refine c0m aq fun q ay=>?_;have p:=bthen X ay;have m:=O (V r q p);refine hK.out _ _ ?_ (fun hHeld=>?_)
  ·exact V m
  clear hK K
  try simp only[Act.put,sa9,sb9,sc9]
  refine tk9 2 (.bool false) ?_;refine tk9 3 (.bool true) ?_;refine tk9 4 (.bool true) ?_;refine tk9 5 (.pointer (some ⟨w.heap.size+1,4,none⟩)) ?_ (hy:=f7s);refine tk9 6 (.slice (some ⟨tb,t,none⟩) 2 J) ?_ (hy:=f7s);refine tk9 7 (.pointer (some ⟨tb,t,none⟩)) ?_ (hy:=f7s);refine tk9 8 (.int .i32 pa) ?_ (hy:=f7s);refine tk9 9 (.pointer (some ⟨w.heap.size+1,4,none⟩)) ?_ (hy:=f7s);refine tk9 10 (.slice (some ⟨tb,t,none⟩) 2 J) ?_ (hy:=f7s);refine tk9 11 (.pointer (some ⟨tb,t+1,none⟩)) ?_ (hy:=f7s);refine tk9 12 (.int .i32 pb) ?_ (hy:=f7s);refine rd9 13 fun K hK=>?_;go_simp;refine(V KM _).mono ?_;rintro e aM ⟨rfl,aT⟩;subst aM;refine hK.out _ _ ?_ (fun hHeld=>?_)
  ·exact V m
  clear hK K
  try simp only[Act.put,sa9,sb9,sc9]
  refine tk9 14 (.bool mk) ?_;refine tk9 15 (.bool mk) ?_;refine tk9 16 (.bool mk) ?_;refine wpAnyH_done f4A ?_ _;cases mk;rotate_left
  ·obtain rfl:R=71:=(V HR).symm;exact e6m
  ·skip;obtain⟨rq,xq,aQ,aR,aS⟩:=(congrFun G _).mpr (V m);obtain⟨q0,q1,q2,q3,q4,q5,q6,q7⟩:=cells8 rq;obtain⟨q8,q9,aP⟩:=cells3 xq;clear rq xq;have K2:=O (V KW q p);clear m x KT aq KW KM hHeld;go_wp2_with fail;refine c0m K2 fun W2 aG=>?_;have v:=bthen p aG;clear K2 aG q0 q1 q2 q3 q4 q5 q6 q7 q8 q9 aP aQ aR aS;by_cases hz:wf=0
   ·subst hz;have am:Below _ _ W2.drew:=bthen v (x0i ⟨1,rfl⟩);have x:=O (V r _ am);have K3:=O (V ab _ am);go_wp2;refine wp_region_held_drew (S:=fun w'=>SP w') f4A (V x) (fun hHeld=>?_);refine tk9 0 (.bool true) ?_;refine tk9 1 (.bool true) ?_;refine tk9 2 (.pointer (some ⟨w.heap.size,2,none⟩)) ?_ (hy:=f7s);refine tk9 3 (.map (some mr)) ?_ (hy:=f7s);refine tk9 4 (.agg #[.int .i64 7,.int .i64 lo,.int .i64 hi,.int .i64 c,.slice (some ⟨tb,t,none⟩) 2 J,.string nm,.string M,.float .f64 wt]) ?_ (hy:=f7s);refine tk9 7 (.int .i64 (i:Int)) ?_;refine rd9 5 fun K hK=>?_;go_simp;refine c0m K3 fun W3 aN=>?_;have ae:=bthen am aN;have ar:=O (V r W3 ae);refine hK.out _ _ ?_ (fun hHeld=>?_)
    ·exact V ar
    clear hK K
    try simp only[Act.put,sa9,sb9,sc9]
    refine tk9 6 (.int .i64 fp) ?_ (hy:=by(intro w hSw;obtain⟨rs,D,n,N,L⟩:=(congrFun G _).mpr hSw;obtain⟨T,A,H,I,b,j,s6,a⟩:=cells8 rs;obtain⟨s8,u,k⟩:=cells3 D;have aU:=V d _ (V L);go_simp));refine tk9 8 (.bool (decide (fp<(i:Int)))) ?_;refine tk9 9 (.bool (decide (fp<(i:Int)))) ?_;by_cases aI:fp<(i:Int)
    ·have aH:decide (fp<(i:Int))=true:=d0t aI
     obtain rfl:R=74:=by
      rw[<- V HR,aH];simp
     rw[aH];refine tn9 10 ?_;refine tn9 11 ?_;refine tn9 12 ?_;refine tn9 13 ?_;refine tn9 14 ?_;refine tn9 15 ?_;refine tn9 16 ?_;refine tn9 17 ?_;refine tn9 18 ?_;refine tn9 19 ?_;refine tn9 20 ?_;refine tn9 21 ?_;refine tn9 22 ?_;refine tk9 23 (.bool true) ?_;refine tk9 24 (.bool true) ?_;refine wpAnyH_done f4A ?_ _;have HF:=V E W3 74 ae;clear r x E K3 ar ae hHeld HR d KP ab v am p;exact w0a
    ·have aA:decide (fp<(i:Int))=false:=d0f aI;rw[aA];have K4:=O (V KP W3 ae);refine tk9 10 (.agg #[.slice g cs.length Z,.slice P s.length B,.map (some mr)]) ?_ (hy:=f7s);refine tk9 11 (.pointer (some ⟨w.heap.size+1,1,none⟩)) ?_ (hy:=f7s);refine tk9 12 (.int .i64 lo) ?_ (hy:=f7s);refine tk9 13 (.int .i32 lo) ?_ (hy:=f7s);refine tk9 14 (.pointer (some ⟨w.heap.size+1,4,none⟩)) ?_ (hy:=f7s);refine tk9 15 (.slice (some ⟨tb,t,none⟩) 2 J) ?_ (hy:=f7s);refine tk9 16 (.pointer (some ⟨tb,t,none⟩)) ?_ (hy:=f7s);refine tk9 17 (.int .i32 pa) ?_ (hy:=f7s);refine tk9 18 (.pointer (some ⟨w.heap.size+1,4,none⟩)) ?_ (hy:=f7s);refine tk9 19 (.slice (some ⟨tb,t,none⟩) 2 J) ?_ (hy:=f7s);refine tk9 20 (.pointer (some ⟨tb,t+1,none⟩)) ?_ (hy:=f7s);refine tk9 21 (.int .i32 pb) ?_ (hy:=f7s);refine rd9 22 fun K hK=>?_;go_simp;refine c0m K4 fun W4 aO=>?_;have F:=bthen ae aO;have aw:=O (V r W4 F);refine hK.out _ _ ?_ (fun hHeld=>?_)
     ·exact V aw
     clear hK K
     try simp only[Act.put,sa9,sb9,sc9]
     refine tk9 23 (.bool wp) ?_;refine tk9 24 (.bool wp) ?_;refine wpAnyH_done f4A ?_ _;cases wp
     ·obtain rfl:R=0:=by
       rw[<- V HR,aA];simp
      have HF:=V E W4 0 F;exact w9y
     ·obtain rfl:R=74:=by
       rw[<- V HR,aA];simp
      have HF:=V E W4 74 F;exact w9y
   ·have aY:(wf != 0)=true:=(by simp[hz]);obtain rfl:R=wf:=(by rw[<- V HR];simp[hz]);have HF:=V E W2 R v;clear hz;clear r E v HR d KP ab p;exact w0a
 ·obtain rfl:R=71:=(V HR).symm;go_enter func92,ntmps92;go_wp2;refine wp_region_held_drew (S:=fun w'=>SP w') f4A (V x) (fun hHeld=>?_);refine tk9 0 (.agg #[.int .i64 7,.int .i64 lo,.int .i64 hi,.int .i64 c,.slice (some ⟨tb,t,none⟩) 2 J,.string nm,.string M,.float .f64 wt]) ?_ (hy:=f7s);refine rd9 1 fun K hK=>?_;go_simp;refine c0m aq fun q ay=>?_;have p:=bthen X ay;have m:=O (V r q p);refine hK.out _ _ ?_ (fun hHeld=>?_)
  ·exact V m
  clear hK K
  try simp only[Act.put,sa9,sb9,sc9]
  refine tk9 2 (.bool true) ?_;refine tn9 3 ?_;refine tn9 4 ?_;refine tn9 5 ?_;refine tn9 6 ?_;refine tn9 7 ?_;refine tn9 8 ?_;refine tn9 9 ?_;refine tn9 10 ?_;refine tn9 11 ?_;refine tn9 12 ?_;refine tn9 13 ?_;refine tn9 14 ?_;refine tk9 15 (.bool true) ?_;refine tk9 16 (.bool true) ?_;refine wpAnyH_done f4A ?_ _;exact e6m
theorem q1s(l cs s:List Rec)(cv ov:Value)(b i:Nat)(lo hi c:Int)(Y:List Int)(R M:ByteArray)(wt:Nat)(vt:Value)(w:World)(H:Glob w)(h:Idx l w cv ov cs s)(L:Sk .i32 w vt Y)(N:¬lo<128)(ab:Rune lo) :
  Calls prog 92 #[xV cv ov (.map (some b)),.int .i64 (i:Int),recV (⟨8,lo,hi,c,Y,R,M,wt⟩:Rec) vt] w (IntB w (if touches (⟨8,lo,hi,c,Y,R,M,wt⟩:Rec)=true then 71 else Cn.wfull l lo)):=by
 obtain⟨g,Z,rfl,_,_⟩:=h.rc.shape;obtain⟨P,B,rfl,_,_⟩:=h.ro.shape;obtain⟨d,J,rfl,_,_⟩:=L.shape;obtain⟨Q,D⟩:∃Q,((w.alloc (.cells #[.slice g cs.length Z,.slice P s.length B,.map (some b)] 168)).alloc (.cells #[.int .i64 8,.int .i64 lo,.int .i64 hi,.int .i64 c,.slice d Y.length J,.string R,.string M,.float .f64 wt] 60))=Q:=⟨_,rfl⟩;have f:Bw w Q:=f9z;have am:Q.heap.size=w.heap.size+2:=by rw[<- D];exact M7M
 have a:Q.heap[w.heap.size]?=some (.cells #[.slice g cs.length Z,.slice P s.length B,.map (some b)] 168 (0,0)):=P3t
 have y:Q.heap[w.heap.size+1]?=some (.cells #[.int .i64 8,.int .i64 lo,.int .i64 hi,.int .i64 c,.slice d Y.length J,.string R,.string M,.float .f64 wt] 60 (0,0)):=by
  rw[<- D];exact W4c
 have o:Hid (∀W:World,Bw Q W->Bw w W):=fun W U=>f.trans (U.mono f6J);obtain⟨SP,G⟩:∃SP:World->Prop,(fun W=>(W.heap[w.heap.size+1]?=some (.cells #[.int .i64 8,.int .i64 lo,.int .i64 hi,.int .i64 c,.slice d Y.length J,.string R,.string M,.float .f64 wt] 60 (0,0))/\W.heap[w.heap.size]?=some (.cells #[.slice g cs.length Z,.slice P s.length B,.map (some b)] 168 (0,0))/\Hid (Bw Q W)))=SP:=⟨_,rfl⟩
 have r:Hid (∀W:World,Bw Q W->SP W):=fun W U=>by
  rw[<- G];have hx:=(U.block (w.heap.size) f6J).trans a;have hr:=(U.block (w.heap.size+1) f6J).trans y;exact⟨hr,hx,U⟩
 have KT:Hid (∀W:World,Calls prog 138 #[.agg #[.int .i64 8,.int .i64 lo,.int .i64 hi,.int .i64 c,.slice d Y.length J,.string R,.string M,.float .f64 wt]] W (x0g W (touches (⟨8,lo,hi,c,Y,R,M,wt⟩:Rec)))):=fun W=>x3O (⟨8,lo,hi,c,Y,R,M,wt⟩:Rec) _ _ _ W;have KW:Hid (∀W:World,Bw Q W->Calls prog 140 #[.agg #[.slice g cs.length Z,.slice P s.length B,.map (some b)],.int .i32 lo] W (IntB W (Cn.wfull l lo))):=fun W U=>y1U l cs s _ _ b lo W (H.on (V o W U)) (h.below (V o W U)) ab
 have aj:IntKind.i32.wrap lo=lo:=by
  unfold Rune at ab;exact t7M
 have X:Bw Q Q.drew:=x0i ⟨1,rfl⟩;have x:=O (V r _ X);have E:Hid (∀W z,Bw Q W->IntB w z (.returned (.int .i64 z)) W):=fun W z U=>⟨rfl,V o W U⟩;have I:=O (V KT Q.drew);generalize touches (⟨8,lo,hi,c,Y,R,M,wt⟩:Rec)=tc,Cn.wfull l lo=wf at *;subst D;unfold xV recV;clear a y f h L H;cases tc
 ·rw[if_neg e8P];go_enter func92,ntmps92;go_wp2;refine wp_region_held_drew (S:=fun C=>SP C) f4y (V x) (fun hHeld=>?_);refine tk9 0 (.agg #[.int .i64 8,.int .i64 lo,.int .i64 hi,.int .i64 c,.slice d Y.length J,.string R,.string M,.float .f64 wt]) ?_ (hy:=s7Z);refine rd9 1 fun K hK=>?_;go_simp;refine c0m I fun q F=>?_;have p:=bthen X F;have m:=O (V r q p);refine hK.out _ _ ?_ (fun hHeld=>?_)
  ·exact V m
  clear hK K
  try simp only[Act.put,sa9,sb9,sc9]
  refine tk9 2 (.bool false) ?_;refine tk9 3 (.bool false) ?_;refine tk9 4 (.bool false) ?_;refine tn9 5 ?_;refine tn9 6 ?_;refine tn9 7 ?_;refine tn9 8 ?_;refine tn9 9 ?_;refine tn9 10 ?_;refine tn9 11 ?_;refine tn9 12 ?_;refine tn9 13 ?_;refine tk9 14 (.bool false) ?_;refine tk9 15 (.bool false) ?_;refine tk9 16 (.bool false) ?_;refine wpAnyH_done f4y ?_ _;obtain⟨rq,xq,ae⟩:=(congrFun G _).mpr (V m);obtain⟨q0,q1,q2,q3,q4,q5,q6,q7⟩:=cells8 rq;obtain⟨q8,q9,A⟩:=cells3 xq;clear rq xq;have j:=O (V KW q p);clear m x KT I KW hHeld;go_wp2_with fail;refine c0m j fun W2 t=>?_;have v:=bthen p t;clear j t;by_cases u:wf=0
  ·subst u;go_wp2;refine wp_region_held_drew (S:=fun _=>True) f4y trivial (fun hHeld=>?_);refine tk9 0 (.bool false) ?_;refine tk9 1 (.bool false) ?_;refine tn9 2 ?_;refine tn9 3 ?_;refine tn9 4 ?_;refine tn9 5 ?_;refine tn9 6 ?_;refine tn9 7 ?_;refine tn9 8 ?_;refine tn9 9 ?_;refine tn9 10 ?_;refine tn9 11 ?_;refine tn9 12 ?_;refine tn9 13 ?_;refine tn9 14 ?_;refine tn9 15 ?_;refine tn9 16 ?_;refine tn9 17 ?_;refine tn9 18 ?_;refine tn9 19 ?_;refine tn9 20 ?_;refine tn9 21 ?_;refine tn9 22 ?_;refine tn9 23 ?_;refine tk9 24 (.bool false) ?_;refine wpAnyH_done f4y ?_ _;have T:=V E W2.drew 0 (bthen v (x0i ⟨1,rfl⟩));clear r E v hHeld p q0 q1 q2 q3 q4 q5 q6 q7 q8 q9 A ae;exact U7J
  ·have aq:(wf != 0)=true:=(by simp[u]);have T:=V E W2 wf v;clear u;clear r E v p q0 q1 q2 q3 q4 q5 q6 q7 q8 q9 A ae;exact U7J
 ·rw[if_pos rfl];go_enter func92,ntmps92;go_wp2;refine wp_region_held_drew (S:=fun C=>SP C) f4y (V x) (fun hHeld=>?_);refine tk9 0 (.agg #[.int .i64 8,.int .i64 lo,.int .i64 hi,.int .i64 c,.slice d Y.length J,.string R,.string M,.float .f64 wt]) ?_ (hy:=s7Z);refine rd9 1 fun K hK=>?_;go_simp;refine c0m I fun q F=>?_;have p:=bthen X F;have m:=O (V r q p);refine hK.out _ _ ?_ (fun hHeld=>?_)
  ·exact V m
  clear hK K
  try simp only[Act.put,sa9,sb9,sc9]
  refine tk9 2 (.bool true) ?_;refine tn9 3 ?_;refine tn9 4 ?_;refine tn9 5 ?_;refine tn9 6 ?_;refine tn9 7 ?_;refine tn9 8 ?_;refine tn9 9 ?_;refine tn9 10 ?_;refine tn9 11 ?_;refine tn9 12 ?_;refine tn9 13 ?_;refine tn9 14 ?_;refine tk9 15 (.bool true) ?_;refine tk9 16 (.bool true) ?_;refine wpAnyH_done f4y ?_ _;have T:=V E q 71 p;clear r x E KT I KW m p hHeld;exact U7J
namespace Cn
def x5Q(rs:List Rec)(k:Nat):Nat×Int:=match x0U rs k (rs.drop k)with
 | some x=>x
 | Option.none=>if baseA rs 78 45 then(0,0)else(rs.length,70)
theorem z1o{rs k}(G:k<rs.length)(h:record rs k (rs.getD k none)≠0):x5Q rs k=(k,record rs k (rs.getD k none)):=by
 have e:rs.getD k none=rs[k]:=(by grind);rw[e]at h ⊢;unfold x5Q;rw[List.drop_eq_getElem_cons G,x0U,if_neg h]
theorem y6T{rs k}(G:k<rs.length)(h:record rs k (rs.getD k none)=0):x5Q rs k=x5Q rs (k+1):=by
 have e:rs.getD k none=rs[k]:=(by grind);rw[e]at h;unfold x5Q;rw[List.drop_eq_getElem_cons G,x0U,if_pos h]
theorem z1n rs:x5Q rs rs.length=if baseA rs 78 45 then(0,0)else(rs.length,70):=by
 unfold x5Q;rw[List.drop_length,x0U]
theorem y5i{rs}(h:(check6 rs).2≠0):check rs=check6 rs:=by unfold check;rw[if_pos h]
theorem y7T{rs}(h:(check6 rs).2=0):check rs=x5Q rs 0:=by unfold check x5Q;rw[if_neg (fun e=>e h)];rfl
end Cn
theorem z1L l cs os cv ov mr i vt w(H:Glob w)(h:Idx l w cv ov cs os)(s:PAt w mr (Cn.firstP l))(hi:i<l.length)(L:Sk .i32 w vt (l.getD i Cn.none).to) :
  Calls prog 92 #[xV cv ov (.map (some mr)),.int .i64 (i:Int),recV (l.getD i Cn.none) vt] w (IntB w (Cn.record l i (l.getD i Cn.none))):=by
 obtain⟨S,Q⟩:=Cn.x1F h.ok;have o:l.getD i Cn.none∈l:=n7G;have X:=Q _ o;have W:=Cn.z3P (l:=l) (i:=i) hi;generalize l.getD i Cn.none=r at *;by_cases G:r.kind=6\/r.kind=7\/r.kind=8
 ·have j:r.kind≠15:=f6J;obtain⟨T,b,k⟩:=Cn.x0q X j;have U:Rune r.lo:=(by unfold Rune;exact f6J);by_cases N:r.lo<128
  ·rw[Cn.y6w X G N];obtain⟨g,Z,rfl,_,_⟩:=h.rc.shape;obtain⟨P,B,rfl,_,_⟩:=h.ro.shape;obtain⟨d,J,rfl,_,_⟩:=L.shape;exact z4I _ _ _ _ _ _ _ _ _ _ _ r.kind r.lo r.hi r.n r.to r.name r.other r.wt w G N
  ·obtain⟨z,lo,C,c,I,R,M,D⟩:=r;rcases G with F | k7 | k8
   ·simp only at F;subst F;have:=q1q l cs os cv ov mr i lo C c I R M D vt w h L N;by_cases K:touches ⟨6,lo,C,c,I,R,M,D⟩=true
    ·rw[if_pos K]at this;rw[Cn.x2u (.inl rfl) N (by rw[K];rfl)];exact this
    ·rw[if_neg K]at this;rw[Cn.x3J (.inl rfl) N R6c,if_pos rfl];exact this
   ·simp only at k7;subst k7;obtain⟨⟨a,A⟩,E⟩:=Cn.x0x (Cn.x0E X rfl).2.2;simp only at a A E
    have x:Rune (I.getD 0 0):=by
     have:=o0d (E (I.getD 0 0) (x6g f6J));unfold Rune;omega
    have f:Rune (I.getD 1 0):=by
     have:=o0d (E (I.getD 1 0) (x6g f6J));unfold Rune;omega
    have:=q1r l cs os cv ov mr i lo C c I R M D vt w H h L N U f6J x f s;by_cases K:(touches ⟨7,lo,C,c,I,R,M,D⟩||makes (I.getD 0 0) (I.getD 1 0))=true
    ·rw[if_pos K]at this;rw[Cn.x2u (.inr (.inl rfl)) N R6c];exact this
    ·rw[if_neg K]at this;rw[Cn.x3J (.inr (.inl rfl)) N R6c,if_neg (e8N:¬(7:Int)=6)];by_cases y:Cn.wfull l lo≠0
     ·rw[if_pos y]at this;rw[if_pos y];exact this
     ·rw[if_neg y]at this;rw[if_neg y,W rfl];by_cases Y:Cn.bad7 l i ⟨7,lo,C,c,I,R,M,D⟩=true
      ·have t:=Y;unfold Cn.bad7 at t;rw[if_pos t]at this;rw[if_pos ⟨rfl,by rw[Y];rfl⟩];exact this
      ·have t:=Y;unfold Cn.bad7 at t;rw[if_neg t]at this;rw[if_neg (fun q=>Y (by simpa using q.2))];exact this
   ·simp only at k8;subst k8;have:=q1s l cs os cv ov mr i lo C c I R M D vt w H h L N U;by_cases K:touches ⟨8,lo,C,c,I,R,M,D⟩=true
    ·rw[if_pos K]at this;rw[Cn.x2u (.inr (.inr rfl)) N (by rw[K];rfl)];exact this
    ·rw[if_neg K]at this
     have e:Cn.record l i ⟨8,lo,C,c,I,R,M,D⟩=Cn.wfull l lo:=by
      rw[Cn.x3J (.inr (.inr rfl)) N R6c,if_neg (e8N:¬(8:Int)=6)];by_cases y:Cn.wfull l lo≠0
      ·rw[if_pos y]
      ·rw[if_neg y,if_neg (fun q=>absurd q.1 (e8N:¬(8:Int)=7))];exact(Decidable.not_not.1 y).symm
     rw[e];exact this
 ·rw[Cn.y3b f6J f6J f6J];obtain⟨g,Z,rfl,_,_⟩:=h.rc.shape;obtain⟨P,B,rfl,_,_⟩:=h.ro.shape;obtain⟨d,J,rfl,_,_⟩:=L.shape;exact z1K _ _ _ _ _ _ _ _ _ _ _ r.kind r.lo r.hi r.n r.to r.name r.other r.wt w f6J f6J f6J
theorem z9b:z8G:=by
 intro v l w hg hv;have K6:=O (y7U v l w hg hv);have I:Hid ((Cn.check6 l).2≠0->Cn.check l=Cn.check6 l):=Cn.y5i;have L:Hid ((Cn.check6 l).2=0->Cn.check l=Cn.x5Q l 0/\∀W,Bw w W->Calls prog 91 #[v] W (y7g W l)):=fun h=>⟨Cn.y7T h,fun W U=>y1h v l W (hv.below U) h⟩;have HV:Hid (∀W,Bw w W->Rcs W v l):=fun W U=>hv.below U;have HG:Hid (∀W,Bw w W->Glob W):=fun W U=>hg.on U;have KB:Hid (∀W,Bw w W->Calls prog 93 #[v] W (x0g W (Cn.baseA l 78 45))):=fun W U=>y2F v l W (hg.on U) (hv.below U);have aq:=O (Cn.z1n l);have aJ:=O (fun i hi=>hv.fit (i:=i) hi);generalize Cn.check l=res,Cn.check6 l=q at *;obtain⟨q1,A⟩:=q;have aL:=hv.1;obtain⟨ao,aM,rfl,_,_⟩:=hv.shape;go_enter func49,ntmps49;go_wp2_with fail;refine c0m K6 fun Q F=>?_;by_cases hq:A=0
 ·obtain⟨x,aA⟩:=V L hq;obtain rfl:A=0:=hq;have KI:=O (aA Q F);have R:=O x;go_wp2_with fail;refine(V KI).mono ?_;rintro e u ⟨cv,ov,Y,s,rfl,hI,hP,t⟩;have aw:=bthen F t;obtain⟨g,Z,rfl,_,_⟩:=hI.rc.shape;obtain⟨P,B,rfl,_,_⟩:=hI.ro.shape;unfold xV;have z:Bw u (u.alloc (.cells #[.slice g Y.length Z,.slice P s.length B,.map (some (Q.heap.size+1))] 168)):=(b0r).alloc (l0r _) _
  have aI:(u.alloc (.cells #[.slice g Y.length Z,.slice P s.length B,.map (some (Q.heap.size+1))] 168)).heap[u.heap.size]?=some (.cells #[.slice g Y.length Z,.slice P s.length B,.map (some (Q.heap.size+1))] 168 (0,0)):=by
   show(u.heap.push _)[u.heap.size]?=_;simp
  have ab:(u.alloc (.cells #[.slice g Y.length Z,.slice P s.length B,.map (some (Q.heap.size+1))] 168)).heap.size=u.heap.size+1:=M7P;have H:Hid (∀W,Below (u.heap.size+1) (u.alloc (.cells #[.slice g Y.length Z,.slice P s.length B,.map (some (Q.heap.size+1))] 168)) W->Bw u W):=fun W U=>z.trans (U.mono f6J)
  have aG:Hid (∀W,Below (u.heap.size+1) (u.alloc (.cells #[.slice g Y.length Z,.slice P s.length B,.map (some (Q.heap.size+1))] 168)) W->W.cell? ⟨u.heap.size,0,none⟩=some (.slice g Y.length Z)/\W.cell? ⟨u.heap.size,1,none⟩=some (.slice P s.length B)/\W.cell? ⟨u.heap.size,2,none⟩=some (.map (some (Q.heap.size+1)))):=fun W U=>by
   have hx:=(U.block (u.heap.size) f6J).trans aI;exact⟨cell_of (j:=0) hx T7c,cell_of (j:=1) hx f2P,cell_of (j:=2) hx U4u⟩
  have aF:Hid (∀i vt W,i<l.length->Bw u W->Sk .i32 W vt (l.getD i Cn.none).to->Calls prog 92 #[.agg #[.slice g Y.length Z,.slice P s.length B,.map (some (Q.heap.size+1))],.int .i64 (i:Int),recV (l.getD i Cn.none) vt] W (IntB W (Cn.record l i (l.getD i Cn.none)))):=fun i vt W hi U hs=>by
   obtain⟨es,cl,p1,p2⟩:=hP;exact z1L l Y s _ _ _ i vt W (V HG W (bthen aw U)) (hI.below U) ⟨es,cl,by rw[U.block _ (x0G p1)];exact p1,p2⟩ hi hs
  have aj:=O aw;go_wp2;go_loopw[7,8,9,23] (fun _ _ _ iv wr=>∃k:Nat,iv=.int .i64 k/\k<=l.length/\Hid (res=Cn.x5Q l k)/\Hid (Below (u.heap.size+1) (u.alloc (.cells #[.slice g Y.length Z,.slice P s.length B,.map (some (Q.heap.size+1))] 168)) wr)) (fun _ _ _ iv _=>l.length-(intOf iv).toNat)
  case atStart=>exact⟨0,rfl,f6J,R,b0r⟩
  case round =>
   obtain⟨k,rfl,hk,R,N⟩:=hrel;have ae:=V H wr (V N);have c:Bw w wr:=bthen (V aj) ae;by_cases E:k<l.length
   ·obtain⟨b,aQ,aK,ev,_,_,X⟩:=(V HV wr c).place f6J;simp only[Value.slice.injEq]at ev;obtain⟨rfl,_,rfl⟩:=ev;obtain⟨x0,x1,x2,x3,⟨vt,x4,f⟩,x5,x6,x7⟩:=X k E;obtain⟨d,J,rfl,_,_⟩:=f.shape;have p:∀o,Bw wr (wr.alloc o):=fun o=>(b0r).alloc (l0r _) _;have D:∀o,Below (u.heap.size+1) (u.alloc (.cells #[.slice g Y.length Z,.slice P s.length B,.map (some (Q.heap.size+1))] 168)) (wr.alloc o):=fun o=>(V N).trans ((p o).mono (by have:=(V N).size;rw[ab]at this;exact f6J));have KK:=O (V aF k _ (wr.alloc (.cells #[.int .i64 (l.getD k Cn.none).kind,.int .i64 (l.getD k Cn.none).lo,.int .i64 (l.getD k Cn.none).hi,.int .i64 (l.getD k Cn.none).n,.slice d (l.getD k Cn.none).to.length J,.string (l.getD k Cn.none).name,.string (l.getD k Cn.none).other,.float .f64 (l.getD k Cn.none).wt] 60)) E (bthen ae (p _)) (f.below (p _)));obtain⟨y0,y1,y2⟩:=V aG _ (D (.cells #[.int .i64 (l.getD k Cn.none).kind,.int .i64 (l.getD k Cn.none).lo,.int .i64 (l.getD k Cn.none).hi,.int .i64 (l.getD k Cn.none).n,.slice d (l.getD k Cn.none).to.length J,.string (l.getD k Cn.none).name,.string (l.getD k Cn.none).other,.float .f64 (l.getD k Cn.none).wt] 60));have M:=O (D (.cells #[.int .i64 (l.getD k Cn.none).kind,.int .i64 (l.getD k Cn.none).lo,.int .i64 (l.getD k Cn.none).hi,.int .i64 (l.getD k Cn.none).n,.slice d (l.getD k Cn.none).to.length J,.string (l.getD k Cn.none).name,.string (l.getD k Cn.none).other,.float .f64 (l.getD k Cn.none).wt] 60));have ar:Hid (Cn.record l k (l.getD k Cn.none)≠0->res=(k,Cn.record l k (l.getD k Cn.none))):=fun h=>(V R).trans (Cn.z1o E h);have aD:Hid (Cn.record l k (l.getD k Cn.none)=0->res=Cn.x5Q l (k+1)):=fun h=>(V R).trans (Cn.y6T E h);have aB:=(V N).size;rw[ab]at aB;unfold recV at KK;generalize Cn.record l k (l.getD k Cn.none)=y at *;generalize l.getD k Cn.none=r at *;have aN:∀W a m,(store a (.float .f64 r.wt) m).run prog W=stored prog W a (.float .f64 r.wt) m:=fun W a m=>run_store prog W a _ m rfl;go_wp2_with fail;refine c0m KK fun C S=>?_;have am:Hid (Below (u.heap.size+1) (u.alloc (.cells #[.slice g Y.length Z,.slice P s.length B,.map (some (Q.heap.size+1))] 168)) C):=(V M).trans (S.mono (by have:=(V M).size;rw[ab]at this;exact this));have aC:Hid (Bw w C):=bthen (V aj) (V H C (V am));by_cases hy:y=0
    ·have HN:=O (V aD hy);obtain rfl:y=0:=hy;go_wp2
     go_roundw
     case rel=>exact⟨k+1,g2A,f6J,HN,am⟩
     case measure=>exact g7T
    ·obtain rfl:=V ar hy;have aP:(y != 0)=true:=(by simp[hy]);have T:x3R w (k,y) (.returned (.tuple #[.int .i64 (k:Int),.int .i64 y])) C:=⟨rfl,V aC⟩;exact w6B
   ·obtain rfl:k=l.length:=f6J;have aH:=O (V KB wr c);have x:=(V R).trans (V aq);have K:=O x;have G:=O c;generalize Cn.baseA l 78 45=bb at *;go_wp2_with fail;refine c0m aH fun C S=>?_;have ay:=bthen (V G) S;cases bb
    ·obtain rfl:res=(l.length,70):=V K;have T:x3R w (l.length,70) (.returned (.tuple #[.int .i64 (l.length:Int),.int .i64 70])) C:=⟨rfl,ay⟩;exact w6B
    ·obtain rfl:res=(0,0):=V K;have T:x3R w (0,0) (.returned (.tuple #[.int .i64 0,.int .i64 0])) C:=⟨rfl,ay⟩;exact w6B
 ·obtain rfl:=V I hq;have aO:(A != 0)=true:=(by simp[hq]);have T:x3R w (q1,A) (.returned (.tuple #[.int .i64 (q1:Int),.int .i64 A])) Q:=⟨rfl,F⟩;exact w6B
