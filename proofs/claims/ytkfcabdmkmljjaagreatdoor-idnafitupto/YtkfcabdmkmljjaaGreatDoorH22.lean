/- Lemmas. -/
import Derived.Test.YtkfcabdmkmljjaaGreatDoorH13
import Derived.Test.YtkfcabdmkmljjaaGreatDoorH20
set_option maxHeartbeats 16000000
set_option maxRecDepth 20000
namespace Go.Proofs.YtkfcabdmkmljjaaGreatDoor
open Go.Proofs.Tryz
open Go.RowKit
section
variable{p:Prop}
theorem f4F(h:p:=by(intro w hSw;obtain⟨rs,X,k,T,A⟩:=(congrFun G _).mpr hSw;obtain⟨f,U,B,C,N,c,o,t⟩:=cells8 rs;obtain⟨s8,q,b⟩:=cells3 X;go_simp)):p:=h
theorem u7l(h:p:=by simpa using p):p:=h
theorem F9c(h:p:=by(intro w hSw;obtain⟨rs,X,k⟩:=(congrFun G _).mpr hSw;obtain⟨s0,s1,s2,s3,s4,s5,s6,s7⟩:=cells8 rs;obtain⟨s8,s9,b⟩:=cells3 X;go_simp)):p:=h
theorem R9B(h:p:=by(intro w hSw;obtain⟨rs,X,k⟩:=(congrFun G _).mpr hSw;obtain⟨s0,s1,s2,C,s4,s5,s6,s7⟩:=cells8 rs;obtain⟨H,q,b⟩:=cells3 X;go_simp)):p:=h
theorem W4c(h:p:=by show((w.heap.push _).push _)[w.heap.size+1]?=_;rw[Array.getElem?_push];simp):p:=h
theorem V5E(h:p:=by rw[<- G];have hx:=(R.block (w.heap.size) f6J).trans c;have hr:=(R.block (w.heap.size+1) f6J).trans x;exact⟨hr,hx,R⟩):p:=h
theorem f2Y(h:p:=by have HF:=V v W1 71 g;clear r E v KT ai KW KM KP ab F m g hHeld L;exact w0a):p:=h
theorem v4z(h:p:=by clear r E v K3 K4 aq ar p aj hHeld L F KP ab d ag g;exact w0a):p:=h
theorem r3b(h:p:=by rw[<- p];exact((b0r).alloc (l0r _) _).alloc M7M _):p:=h
theorem t7M(h:p:=by simp[IntKind.wrap,IntKind.bits,IntKind.signed];omega):p:=h
end
theorem q1r(l cs u:List Rec)(cv ov:Value)(o i:Nat)(lo hi I:Int)(Y:List Int)(y M:ByteArray)(wt:Nat)(vt:Value)(w:World)(h:Idx l w cv ov cs u)(L:Sk .i32 w vt Y)(N:¬lo<128) :
  Calls prog 92 #[xV cv ov (.map (some o)),.int .i64 (i:Int),recV (⟨6,lo,hi,I,Y,y,M,wt⟩:Rec) vt] w (IntB w (if touches (⟨6,lo,hi,I,Y,y,M,wt⟩:Rec)=true then 71 else 0)):=by
 obtain⟨s,Z,rfl,_,_⟩:=h.rc.shape;obtain⟨P,D,rfl,_,_⟩:=h.ro.shape;obtain⟨A,J,rfl,_,_⟩:=L.shape;obtain⟨Q,p⟩:∃Q,((w.alloc (.cells #[.slice s cs.length Z,.slice P u.length D,.map (some o)] 168)).alloc (.cells #[.int .i64 6,.int .i64 lo,.int .i64 hi,.int .i64 I,.slice A Y.length J,.string y,.string M,.float .f64 wt] 60))=Q:=⟨_,rfl⟩;have f:Bw w Q:=r3b;have T:Q.heap.size=w.heap.size+2:=by rw[<- p];exact M7M
 have c:Q.heap[w.heap.size]?=some (.cells #[.slice s cs.length Z,.slice P u.length D,.map (some o)] 168 (0,0)):=by
  rw[<- p];exact n9Y
 have x:Q.heap[w.heap.size+1]?=some (.cells #[.int .i64 6,.int .i64 lo,.int .i64 hi,.int .i64 I,.slice A Y.length J,.string y,.string M,.float .f64 wt] 60 (0,0)):=by
  rw[<- p];exact W4c
 have j:Hid (∀W:World,Bw Q W->Bw w W):=fun W R=>f.trans (R.mono f6J);obtain⟨t,G⟩:∃t:World->Prop,(fun W=>(W.heap[w.heap.size+1]?=some (.cells #[.int .i64 6,.int .i64 lo,.int .i64 hi,.int .i64 I,.slice A Y.length J,.string y,.string M,.float .f64 wt] 60 (0,0))/\W.heap[w.heap.size]?=some (.cells #[.slice s cs.length Z,.slice P u.length D,.map (some o)] 168 (0,0))/\Hid (Bw Q W)))=t:=⟨_,rfl⟩
 have r:Hid (∀W:World,Bw Q W->t W):=fun W R=>V5E
 have KT:Hid (∀W:World,Calls prog 138 #[.agg #[.int .i64 6,.int .i64 lo,.int .i64 hi,.int .i64 I,.slice A Y.length J,.string y,.string M,.float .f64 wt]] W (x0g W (touches (⟨6,lo,hi,I,Y,y,M,wt⟩:Rec)))):=fun W=>x3P (⟨6,lo,hi,I,Y,y,M,wt⟩:Rec) _ _ _ W;have n:Bw Q Q.drew:=x0i ⟨1,rfl⟩;have E:=O (V r _ n);have v:Hid (∀W z,Bw Q W->IntB w z (.returned (.int .i64 z)) W):=fun W z R=>⟨rfl,V j W R⟩;have B:=O (V KT Q.drew);generalize touches (⟨6,lo,hi,I,Y,y,M,wt⟩:Rec)=tc at *;subst p;unfold xV recV;clear c x f h L;cases tc
 ·rw[if_neg e8P];go_enter func92,ntmps92;go_wp2;refine wp_region_held_drew (S:=fun a=>t a) f4y (V E) (fun hHeld=>?_);refine tk9 0 (.agg #[.int .i64 6,.int .i64 lo,.int .i64 hi,.int .i64 I,.slice A Y.length J,.string y,.string M,.float .f64 wt]) ?_ (hy:=R9B);refine rd9 1 fun K hK=>?_;go_simp;refine c0m B fun d F=>?_;have g:=bthen n F;have m:=O (V r d g);refine hK.out _ _ ?_ (fun hHeld=>?_)
  ·exact V m
  clear hK K
  try simp only[Act.put,sa9,sb9,sc9]
  refine tk9 2 (.bool false) ?_;refine tk9 3 (.bool false) ?_;refine tk9 4 (.bool false) ?_;refine tn9 5 ?_;refine tn9 6 ?_;refine tn9 7 ?_;refine tn9 8 ?_;refine tn9 9 ?_;refine tn9 10 ?_;refine tn9 11 ?_;refine tn9 12 ?_;refine tn9 13 ?_;refine tk9 14 (.bool false) ?_;refine tk9 15 (.bool false) ?_;refine tk9 16 (.bool false) ?_;refine wpAnyH_done f4y ?_ _;go_wp2;refine wp_region_held_drew (S:=fun _=>True) f4y trivial (fun hHeld=>?_);refine tk9 0 (.bool false) ?_;refine tk9 1 (.bool false) ?_;refine tn9 2 ?_;refine tn9 3 ?_;refine tn9 4 ?_;refine tn9 5 ?_;refine tn9 6 ?_;refine tn9 7 ?_;refine tn9 8 ?_;refine tn9 9 ?_;refine tn9 10 ?_;refine tn9 11 ?_;refine tn9 12 ?_;refine tn9 13 ?_;refine tn9 14 ?_;refine tn9 15 ?_;refine tn9 16 ?_;refine tn9 17 ?_;refine tn9 18 ?_;refine tn9 19 ?_;refine tn9 20 ?_;refine tn9 21 ?_;refine tn9 22 ?_;refine tn9 23 ?_;refine tk9 24 (.bool false) ?_;refine wpAnyH_done f4y ?_ _;have U:=V v d.drew 0 (bthen g (x0i ⟨1,rfl⟩));clear r E v KT B m g hHeld;exact m2N
 ·rw[if_pos rfl];go_enter func92,ntmps92;go_wp2;refine wp_region_held_drew (S:=fun a=>t a) f4y (V E) (fun hHeld=>?_);refine tk9 0 (.agg #[.int .i64 6,.int .i64 lo,.int .i64 hi,.int .i64 I,.slice A Y.length J,.string y,.string M,.float .f64 wt]) ?_ (hy:=R9B);refine rd9 1 fun K hK=>?_;go_simp;refine c0m B fun d F=>?_;have g:=bthen n F;have m:=O (V r d g);refine hK.out _ _ ?_ (fun hHeld=>?_)
  ·exact V m
  clear hK K
  try simp only[Act.put,sa9,sb9,sc9]
  refine tk9 2 (.bool true) ?_;refine tn9 3 ?_;refine tn9 4 ?_;refine tn9 5 ?_;refine tn9 6 ?_;refine tn9 7 ?_;refine tn9 8 ?_;refine tn9 9 ?_;refine tn9 10 ?_;refine tn9 11 ?_;refine tn9 12 ?_;refine tn9 13 ?_;refine tn9 14 ?_;refine tk9 15 (.bool true) ?_;refine tk9 16 (.bool true) ?_;refine wpAnyH_done f4y ?_ _;have U:=V v d 71 g;clear r E v KT B m g hHeld;exact m2N
theorem q1s(l cs u:List Rec)(cv ov:Value)(mr i:Nat)(lo hi I:Int)(Y:List Int)(nm M:ByteArray)(wt:Nat)(vt:Value)(w:World)(hg:Glob w)(h:Idx l w cv ov cs u)(hs:Sk .i32 w vt Y)(aU:¬lo<128)(aA:Rune lo)(af:Y.length=2)(aB:Rune (Y.getD 0 0))(x:Rune (Y.getD 1 0))(hp:PAt w mr (Cn.firstP l)) :
  Calls prog 92 #[xV cv ov (.map (some mr)),.int .i64 (i:Int),recV (⟨7,lo,hi,I,Y,nm,M,wt⟩:Rec) vt] w (IntB w (if(touches (⟨7,lo,hi,I,Y,nm,M,wt⟩:Rec)||makes (Y.getD 0 0) (Y.getD 1 0))=true then 71 else if Cn.wfull l lo≠0 then Cn.wfull l lo else if(decide ((Cn.firstP l (Y.getD 0 0) (Y.getD 1 0)).getD 0<(i:Int))||Cn.wpair l lo (Y.getD 0 0) (Y.getD 1 0))=true then 74 else 0)):=by
 obtain⟨s,Z,rfl,_,_⟩:=h.rc.shape;obtain⟨P,D,rfl,_,_⟩:=h.ro.shape;obtain⟨y,H,J,rfl,_,_,ae⟩:=hs.place f6J;have am:=ae 0 f6J;have aK:=ae 1 f6J;rw[Nat.add_zero]at am;have aC:Hid (Sk .i32 w (.slice (some ⟨y,H,none⟩) 2 J) Y):=af ▸ hs;obtain⟨Q,hQ⟩:∃Q,((w.alloc (.cells #[.slice s cs.length Z,.slice P u.length D,.map (some mr)] 168)).alloc (.cells #[.int .i64 7,.int .i64 lo,.int .i64 hi,.int .i64 I,.slice (some ⟨y,H,none⟩) 2 J,.string nm,.string M,.float .f64 wt] 60))=Q:=⟨_,rfl⟩;have aD:Bw w Q:=(by rw[<- hQ];exact((b0r).alloc (l0r _) _).alloc M7M _);have aW:Q.heap.size=w.heap.size+2:=by rw[<- hQ];exact M7M
 have aJ:Q.heap[w.heap.size]?=some (.cells #[.slice s cs.length Z,.slice P u.length D,.map (some mr)] 168 (0,0)):=by
  rw[<- hQ];exact n9Y
 have aI:Q.heap[w.heap.size+1]?=some (.cells #[.int .i64 7,.int .i64 lo,.int .i64 hi,.int .i64 I,.slice (some ⟨y,H,none⟩) 2 J,.string nm,.string M,.float .f64 wt] 60 (0,0)):=by
  rw[<- hQ];exact W4c
 have j:Hid (∀W:World,Bw Q W->Bw w W):=fun W hW=>aD.trans (hW.mono f6J);obtain⟨SP,G⟩:∃SP:World->Prop,(fun W=>(W.heap[w.heap.size+1]?=some (.cells #[.int .i64 7,.int .i64 lo,.int .i64 hi,.int .i64 I,.slice (some ⟨y,H,none⟩) 2 J,.string nm,.string M,.float .f64 wt] 60 (0,0))/\W.heap[w.heap.size]?=some (.cells #[.slice s cs.length Z,.slice P u.length D,.map (some mr)] 168 (0,0))/\W.cell? ⟨y,H,none⟩=some (.int .i32 (Y.getD 0 0))/\W.cell? ⟨y,H+1,none⟩=some (.int .i32 (Y.getD 1 0))/\Hid (Bw Q W)))=SP:=⟨_,rfl⟩
 have r:Hid (∀W:World,Bw Q W->SP W):=fun W hW=>by
  rw[<- G];have hx:=(hW.block (w.heap.size) f6J).trans aJ;have hr:=(hW.block (w.heap.size+1) f6J).trans aI;exact⟨hr,hx,by rw[(V j W hW).cell (x0a am)];exact am,by rw[(V j W hW).cell (x0a am)];exact aK,hW⟩
 have KT:Hid (∀W:World,Calls prog 138 #[.agg #[.int .i64 7,.int .i64 lo,.int .i64 hi,.int .i64 I,.slice (some ⟨y,H,none⟩) 2 J,.string nm,.string M,.float .f64 wt]] W (x0g W (touches (⟨7,lo,hi,I,Y,nm,M,wt⟩:Rec)))):=fun W=>x3P (⟨7,lo,hi,I,Y,nm,M,wt⟩:Rec) _ _ _ W;have KW:Hid (∀W:World,Bw Q W->Calls prog 140 #[.agg #[.slice s cs.length Z,.slice P u.length D,.map (some mr)],.int .i32 lo] W (IntB W (Cn.wfull l lo))):=fun W hW=>y1W l cs u _ _ mr lo W (hg.on (V j W hW)) (h.below (V j W hW)) aA
 have aV:IntKind.i32.wrap lo=lo:=by
  unfold Rune at aA;exact t7M
 have KM:Hid (∀W:World,Calls prog 139 #[.int .i32 (Y.getD 0 0),.int .i32 (Y.getD 1 0)] W (fun e a=>e=.returned (.bool (makes (Y.getD 0 0) (Y.getD 1 0)))/\a=W)):=fun W=>y9K _ _ W;have ab:Hid (∀W:World,Bw Q W->Calls prog 135 #[.agg #[.int .i64 7,.int .i64 lo,.int .i64 hi,.int .i64 I,.slice (some ⟨y,H,none⟩) 2 J,.string nm,.string M,.float .f64 wt]] W (fun e a=>e=.returned (pk2 (Y.getD 0 0) (Y.getD 1 0))/\Bw W a)):=fun W hW=>x8E (⟨7,lo,hi,I,Y,nm,M,wt⟩:Rec) _ W ((V aC).below (V j W hW)) af;have KP:Hid (∀W:World,Bw Q W->Calls prog 141 #[.agg #[.slice s cs.length Z,.slice P u.length D,.map (some mr)],.int .i32 lo,.int .i32 (Y.getD 0 0),.int .i32 (Y.getD 1 0)] W (x0g W (Cn.wpair l lo (Y.getD 0 0) (Y.getD 1 0)))):=fun W hW=>z1G l cs u _ _ mr lo _ _ W (hg.on (V j W hW)) (h.below (V j W hW)) aA aB x
 have F:Hid (∀W:World,Bw Q W->(Instr.lookup 166 (.map (some mr)) (pk2 (Y.getD 0 0) (Y.getD 1 0)) false).run prog W=.ok (.int .i64 ((Cn.firstP l (Y.getD 0 0) (Y.getD 1 0)).getD 0)) W):=fun W hW=>by
  obtain⟨es,cl,q1,q2⟩:=hp;exact(look_ok ⟨es,cl,by rw[(V j W hW).block _ (x0D q1)];exact q1,q2⟩ aB x).2
 have n:Bw Q Q.drew:=x0i ⟨1,rfl⟩;have E:=O (V r _ n);have v:Hid (∀W z,Bw Q W->IntB w z (.returned (.int .i64 z)) W):=fun W z hW=>⟨rfl,V j W hW⟩;have ai:=O (V KT Q.drew);rw[af];clear af hs hp aB x ae am aK aC;generalize Cn.wpair l lo (Y.getD 0 0) (Y.getD 1 0)=wp,(Cn.firstP l (Y.getD 0 0) (Y.getD 1 0)).getD 0=fp,makes (Y.getD 0 0) (Y.getD 1 0)=mk at *;generalize Y.getD 0 0=pa,Y.getD 1 0=pb at *;unfold pk2 at *;generalize touches (⟨7,lo,hi,I,Y,nm,M,wt⟩:Rec)=tc,Cn.wfull l lo=wf at *;subst hQ;unfold xV recV;clear aJ aI aD h hg;obtain⟨R,hR⟩:∃R,(if(tc||mk)=true then 71 else if wf≠0 then wf else if(decide (fp<(i:Int))||wp)=true then 74 else 0)=R:=⟨_,rfl⟩;rw[hR];have L:=O hR;clear hR;cases tc
 ·go_enter func92,ntmps92;go_wp2;refine wp_region_held_drew (S:=fun a=>SP a) f4A (V E) (fun hHeld=>?_);refine tk9 0 (.agg #[.int .i64 7,.int .i64 lo,.int .i64 hi,.int .i64 I,.slice (some ⟨y,H,none⟩) 2 J,.string nm,.string M,.float .f64 wt]) ?_ (hy:=f4F);refine rd9 1 fun K hK=>?_;go_simp;refine c0m ai fun W1 aw=>?_;have g:=bthen n aw;have m:=O (V r W1 g);refine hK.out _ _ ?_ (fun hHeld=>?_)
  ·exact V m
  clear hK K
  try simp only[Act.put,sa9,sb9,sc9]
  refine tk9 2 (.bool false) ?_;refine tk9 3 (.bool true) ?_;refine tk9 4 (.bool true) ?_;refine tk9 5 (.pointer (some ⟨w.heap.size+1,4,none⟩)) ?_ (hy:=f4F);refine tk9 6 (.slice (some ⟨y,H,none⟩) 2 J) ?_ (hy:=f4F);refine tk9 7 (.pointer (some ⟨y,H,none⟩)) ?_ (hy:=f4F);refine tk9 8 (.int .i32 pa) ?_ (hy:=f4F);refine tk9 9 (.pointer (some ⟨w.heap.size+1,4,none⟩)) ?_ (hy:=f4F);refine tk9 10 (.slice (some ⟨y,H,none⟩) 2 J) ?_ (hy:=f4F);refine tk9 11 (.pointer (some ⟨y,H+1,none⟩)) ?_ (hy:=f4F);refine tk9 12 (.int .i32 pb) ?_ (hy:=f4F);refine rd9 13 fun K hK=>?_;go_simp;refine(V KM _).mono ?_;rintro e aL ⟨rfl,aS⟩;subst aL;refine hK.out _ _ ?_ (fun hHeld=>?_)
  ·exact V m
  clear hK K
  try simp only[Act.put,sa9,sb9,sc9]
  refine tk9 14 (.bool mk) ?_;refine tk9 15 (.bool mk) ?_;refine tk9 16 (.bool mk) ?_;refine wpAnyH_done f4A ?_ _;cases mk;rotate_left
  ·obtain rfl:R=71:=(V L).symm;exact f2Y
  ·skip;obtain⟨rq,xq,aP,aQ,aR⟩:=(congrFun G _).mpr (V m);obtain⟨q0,q1,q2,q3,q4,q5,q6,q7⟩:=cells8 rq;obtain⟨q8,q9,aO⟩:=cells3 xq;clear rq xq;have K2:=O (V KW W1 g);clear m E KT ai KW KM hHeld;go_wp2_with fail;refine c0m K2 fun W2 aF=>?_;have d:=bthen g aF;clear K2 aF q0 q1 q2 q3 q4 q5 q6 q7 q8 q9 aO aP aQ aR;by_cases hz:wf=0
   ·subst hz;have ag:Below _ _ W2.drew:=bthen d (x0i ⟨1,rfl⟩);have E:=O (V r _ ag);have K3:=O (V ab _ ag);go_wp2;refine wp_region_held_drew (S:=fun a=>SP a) f4A (V E) (fun hHeld=>?_);refine tk9 0 (.bool true) ?_;refine tk9 1 (.bool true) ?_;refine tk9 2 (.pointer (some ⟨w.heap.size,2,none⟩)) ?_ (hy:=f4F);refine tk9 3 (.map (some mr)) ?_ (hy:=f4F);refine tk9 4 (.agg #[.int .i64 7,.int .i64 lo,.int .i64 hi,.int .i64 I,.slice (some ⟨y,H,none⟩) 2 J,.string nm,.string M,.float .f64 wt]) ?_ (hy:=f4F);refine tk9 7 (.int .i64 (i:Int)) ?_;refine rd9 5 fun K hK=>?_;go_simp;refine c0m K3 fun W3 aM=>?_;have p:=bthen ag aM;have aq:=O (V r W3 p);refine hK.out _ _ ?_ (fun hHeld=>?_)
    ·exact V aq
    clear hK K
    try simp only[Act.put,sa9,sb9,sc9]
    refine tk9 6 (.int .i64 fp) ?_ (hy:=by(intro w hSw;obtain⟨rs,X,k,T,A⟩:=(congrFun G _).mpr hSw;obtain⟨f,U,B,C,N,c,o,t⟩:=cells8 rs;obtain⟨s8,q,b⟩:=cells3 X;have aT:=V F _ (V A);go_simp));refine tk9 8 (.bool (decide (fp<(i:Int)))) ?_;refine tk9 9 (.bool (decide (fp<(i:Int)))) ?_;by_cases aH:fp<(i:Int)
    ·have aG:decide (fp<(i:Int))=true:=d0t aH
     obtain rfl:R=74:=by
      rw[<- V L,aG];simp
     rw[aG];refine tn9 10 ?_;refine tn9 11 ?_;refine tn9 12 ?_;refine tn9 13 ?_;refine tn9 14 ?_;refine tn9 15 ?_;refine tn9 16 ?_;refine tn9 17 ?_;refine tn9 18 ?_;refine tn9 19 ?_;refine tn9 20 ?_;refine tn9 21 ?_;refine tn9 22 ?_;refine tk9 23 (.bool true) ?_;refine tk9 24 (.bool true) ?_;refine wpAnyH_done f4A ?_ _;have HF:=V v W3 74 p;clear r E v K3 aq p hHeld L F KP ab d ag g;exact w0a
    ·have az:decide (fp<(i:Int))=false:=d0f aH;rw[az];have K4:=O (V KP W3 p);refine tk9 10 (.agg #[.slice s cs.length Z,.slice P u.length D,.map (some mr)]) ?_ (hy:=f4F);refine tk9 11 (.pointer (some ⟨w.heap.size+1,1,none⟩)) ?_ (hy:=f4F);refine tk9 12 (.int .i64 lo) ?_ (hy:=f4F);refine tk9 13 (.int .i32 lo) ?_ (hy:=f4F);refine tk9 14 (.pointer (some ⟨w.heap.size+1,4,none⟩)) ?_ (hy:=f4F);refine tk9 15 (.slice (some ⟨y,H,none⟩) 2 J) ?_ (hy:=f4F);refine tk9 16 (.pointer (some ⟨y,H,none⟩)) ?_ (hy:=f4F);refine tk9 17 (.int .i32 pa) ?_ (hy:=f4F);refine tk9 18 (.pointer (some ⟨w.heap.size+1,4,none⟩)) ?_ (hy:=f4F);refine tk9 19 (.slice (some ⟨y,H,none⟩) 2 J) ?_ (hy:=f4F);refine tk9 20 (.pointer (some ⟨y,H+1,none⟩)) ?_ (hy:=f4F);refine tk9 21 (.int .i32 pb) ?_ (hy:=f4F);refine rd9 22 fun K hK=>?_;go_simp;refine c0m K4 fun W4 aN=>?_;have aj:=bthen p aN;have ar:=O (V r W4 aj);refine hK.out _ _ ?_ (fun hHeld=>?_)
     ·exact V ar
     clear hK K
     try simp only[Act.put,sa9,sb9,sc9]
     refine tk9 23 (.bool wp) ?_;refine tk9 24 (.bool wp) ?_;refine wpAnyH_done f4A ?_ _;cases wp
     ·obtain rfl:R=0:=by
       rw[<- V L,az];simp
      have HF:=V v W4 0 aj;exact v4z
     ·obtain rfl:R=74:=by
       rw[<- V L,az];simp
      have HF:=V v W4 74 aj;exact v4z
   ·have aX:(wf != 0)=true:=(by simp[hz]);obtain rfl:R=wf:=(by rw[<- V L];simp[hz]);have HF:=V v W2 R d;clear hz;clear r v d L F KP ab g;exact w0a
 ·obtain rfl:R=71:=(V L).symm;go_enter func92,ntmps92;go_wp2;refine wp_region_held_drew (S:=fun a=>SP a) f4A (V E) (fun hHeld=>?_);refine tk9 0 (.agg #[.int .i64 7,.int .i64 lo,.int .i64 hi,.int .i64 I,.slice (some ⟨y,H,none⟩) 2 J,.string nm,.string M,.float .f64 wt]) ?_ (hy:=f4F);refine rd9 1 fun K hK=>?_;go_simp;refine c0m ai fun W1 aw=>?_;have g:=bthen n aw;have m:=O (V r W1 g);refine hK.out _ _ ?_ (fun hHeld=>?_)
  ·exact V m
  clear hK K
  try simp only[Act.put,sa9,sb9,sc9]
  refine tk9 2 (.bool true) ?_;refine tn9 3 ?_;refine tn9 4 ?_;refine tn9 5 ?_;refine tn9 6 ?_;refine tn9 7 ?_;refine tn9 8 ?_;refine tn9 9 ?_;refine tn9 10 ?_;refine tn9 11 ?_;refine tn9 12 ?_;refine tn9 13 ?_;refine tn9 14 ?_;refine tk9 15 (.bool true) ?_;refine tk9 16 (.bool true) ?_;refine wpAnyH_done f4A ?_ _;exact f2Y
theorem q1t(l cs u:List Rec)(cv ov:Value)(o i:Nat)(lo hi I:Int)(Y:List Int)(y M:ByteArray)(wt:Nat)(vt:Value)(w:World)(C:Glob w)(h:Idx l w cv ov cs u)(L:Sk .i32 w vt Y)(N:¬lo<128)(ab:Rune lo) :
  Calls prog 92 #[xV cv ov (.map (some o)),.int .i64 (i:Int),recV (⟨8,lo,hi,I,Y,y,M,wt⟩:Rec) vt] w (IntB w (if touches (⟨8,lo,hi,I,Y,y,M,wt⟩:Rec)=true then 71 else Cn.wfull l lo)):=by
 obtain⟨s,Z,rfl,_,_⟩:=h.rc.shape;obtain⟨P,D,rfl,_,_⟩:=h.ro.shape;obtain⟨A,J,rfl,_,_⟩:=L.shape;obtain⟨Q,p⟩:∃Q,((w.alloc (.cells #[.slice s cs.length Z,.slice P u.length D,.map (some o)] 168)).alloc (.cells #[.int .i64 8,.int .i64 lo,.int .i64 hi,.int .i64 I,.slice A Y.length J,.string y,.string M,.float .f64 wt] 60))=Q:=⟨_,rfl⟩;have f:Bw w Q:=r3b;have ai:Q.heap.size=w.heap.size+2:=by rw[<- p];exact M7M
 have c:Q.heap[w.heap.size]?=some (.cells #[.slice s cs.length Z,.slice P u.length D,.map (some o)] 168 (0,0)):=by
  rw[<- p];exact n9Y
 have x:Q.heap[w.heap.size+1]?=some (.cells #[.int .i64 8,.int .i64 lo,.int .i64 hi,.int .i64 I,.slice A Y.length J,.string y,.string M,.float .f64 wt] 60 (0,0)):=by
  rw[<- p];exact W4c
 have j:Hid (∀W:World,Bw Q W->Bw w W):=fun W R=>f.trans (R.mono f6J);obtain⟨t,G⟩:∃t:World->Prop,(fun W=>(W.heap[w.heap.size+1]?=some (.cells #[.int .i64 8,.int .i64 lo,.int .i64 hi,.int .i64 I,.slice A Y.length J,.string y,.string M,.float .f64 wt] 60 (0,0))/\W.heap[w.heap.size]?=some (.cells #[.slice s cs.length Z,.slice P u.length D,.map (some o)] 168 (0,0))/\Hid (Bw Q W)))=t:=⟨_,rfl⟩
 have r:Hid (∀W:World,Bw Q W->t W):=fun W R=>V5E
 have KT:Hid (∀W:World,Calls prog 138 #[.agg #[.int .i64 8,.int .i64 lo,.int .i64 hi,.int .i64 I,.slice A Y.length J,.string y,.string M,.float .f64 wt]] W (x0g W (touches (⟨8,lo,hi,I,Y,y,M,wt⟩:Rec)))):=fun W=>x3P (⟨8,lo,hi,I,Y,y,M,wt⟩:Rec) _ _ _ W;have KW:Hid (∀W:World,Bw Q W->Calls prog 140 #[.agg #[.slice s cs.length Z,.slice P u.length D,.map (some o)],.int .i32 lo] W (IntB W (Cn.wfull l lo))):=fun W R=>y1W l cs u _ _ o lo W (C.on (V j W R)) (h.below (V j W R)) ab
 have ag:IntKind.i32.wrap lo=lo:=by
  unfold Rune at ab;exact t7M
 have n:Bw Q Q.drew:=x0i ⟨1,rfl⟩;have E:=O (V r _ n);have v:Hid (∀W z,Bw Q W->IntB w z (.returned (.int .i64 z)) W):=fun W z R=>⟨rfl,V j W R⟩;have B:=O (V KT Q.drew);generalize touches (⟨8,lo,hi,I,Y,y,M,wt⟩:Rec)=tc,Cn.wfull l lo=wf at *;subst p;unfold xV recV;clear c x f h L C;cases tc
 ·rw[if_neg e8P];go_enter func92,ntmps92;go_wp2;refine wp_region_held_drew (S:=fun a=>t a) f4y (V E) (fun hHeld=>?_);refine tk9 0 (.agg #[.int .i64 8,.int .i64 lo,.int .i64 hi,.int .i64 I,.slice A Y.length J,.string y,.string M,.float .f64 wt]) ?_ (hy:=F9c);refine rd9 1 fun K hK=>?_;go_simp;refine c0m B fun W1 F=>?_;have g:=bthen n F;have m:=O (V r W1 g);refine hK.out _ _ ?_ (fun hHeld=>?_)
  ·exact V m
  clear hK K
  try simp only[Act.put,sa9,sb9,sc9]
  refine tk9 2 (.bool false) ?_;refine tk9 3 (.bool false) ?_;refine tk9 4 (.bool false) ?_;refine tn9 5 ?_;refine tn9 6 ?_;refine tn9 7 ?_;refine tn9 8 ?_;refine tn9 9 ?_;refine tn9 10 ?_;refine tn9 11 ?_;refine tn9 12 ?_;refine tn9 13 ?_;refine tk9 14 (.bool false) ?_;refine tk9 15 (.bool false) ?_;refine tk9 16 (.bool false) ?_;refine wpAnyH_done f4y ?_ _;obtain⟨rq,xq,af⟩:=(congrFun G _).mpr (V m);obtain⟨q,q1,q2,q3,q4,q5,q6,q7⟩:=cells8 rq;obtain⟨q8,q9,ae⟩:=cells3 xq;clear rq xq;have K2:=O (V KW W1 g);clear m E KT B KW hHeld;go_wp2_with fail;refine c0m K2 fun W2 H=>?_;have d:=bthen g H;clear K2 H;by_cases T:wf=0
  ·subst T;go_wp2;refine wp_region_held_drew (S:=fun _=>True) f4y trivial (fun hHeld=>?_);refine tk9 0 (.bool false) ?_;refine tk9 1 (.bool false) ?_;refine tn9 2 ?_;refine tn9 3 ?_;refine tn9 4 ?_;refine tn9 5 ?_;refine tn9 6 ?_;refine tn9 7 ?_;refine tn9 8 ?_;refine tn9 9 ?_;refine tn9 10 ?_;refine tn9 11 ?_;refine tn9 12 ?_;refine tn9 13 ?_;refine tn9 14 ?_;refine tn9 15 ?_;refine tn9 16 ?_;refine tn9 17 ?_;refine tn9 18 ?_;refine tn9 19 ?_;refine tn9 20 ?_;refine tn9 21 ?_;refine tn9 22 ?_;refine tn9 23 ?_;refine tk9 24 (.bool false) ?_;refine wpAnyH_done f4y ?_ _;have U:=V v W2.drew 0 (bthen d (x0i ⟨1,rfl⟩));clear r v d hHeld g q q1 q2 q3 q4 q5 q6 q7 q8 q9 ae af;exact m2N
  ·have aj:(wf != 0)=true:=(by simp[T]);have U:=V v W2 wf d;clear T;clear r v d g q q1 q2 q3 q4 q5 q6 q7 q8 q9 ae af;exact m2N
 ·rw[if_pos rfl];go_enter func92,ntmps92;go_wp2;refine wp_region_held_drew (S:=fun a=>t a) f4y (V E) (fun hHeld=>?_);refine tk9 0 (.agg #[.int .i64 8,.int .i64 lo,.int .i64 hi,.int .i64 I,.slice A Y.length J,.string y,.string M,.float .f64 wt]) ?_ (hy:=F9c);refine rd9 1 fun K hK=>?_;go_simp;refine c0m B fun W1 F=>?_;have g:=bthen n F;have m:=O (V r W1 g);refine hK.out _ _ ?_ (fun hHeld=>?_)
  ·exact V m
  clear hK K
  try simp only[Act.put,sa9,sb9,sc9]
  refine tk9 2 (.bool true) ?_;refine tn9 3 ?_;refine tn9 4 ?_;refine tn9 5 ?_;refine tn9 6 ?_;refine tn9 7 ?_;refine tn9 8 ?_;refine tn9 9 ?_;refine tn9 10 ?_;refine tn9 11 ?_;refine tn9 12 ?_;refine tn9 13 ?_;refine tn9 14 ?_;refine tk9 15 (.bool true) ?_;refine tk9 16 (.bool true) ?_;refine wpAnyH_done f4y ?_ _;have U:=V v W1 71 g;clear r E v KT B KW m g hHeld;exact m2N
namespace Cn
def x5S(rs:List Rec)(k:Nat):Nat×Int:=match x0Q rs k (rs.drop k)with
 | some x=>x
 | Option.none=>if baseA rs 78 45 then(0,0)else(rs.length,70)
theorem z1p{rs k}(G:k<rs.length)(h:record rs k (rs.getD k none)≠0):x5S rs k=(k,record rs k (rs.getD k none)):=by
 have e:rs.getD k none=rs[k]:=(by grind);rw[e]at h ⊢;unfold x5S;rw[List.drop_eq_getElem_cons G,x0Q,if_neg h]
theorem y6W{rs k}(G:k<rs.length)(h:record rs k (rs.getD k none)=0):x5S rs k=x5S rs (k+1):=by
 have e:rs.getD k none=rs[k]:=(by grind);rw[e]at h;unfold x5S;rw[List.drop_eq_getElem_cons G,x0Q,if_pos h]
theorem z1o rs:x5S rs rs.length=if baseA rs 78 45 then(0,0)else(rs.length,70):=by
 unfold x5S;rw[List.drop_length,x0Q]
theorem y5n{rs}(h:(check6 rs).2≠0):check rs=check6 rs:=by unfold check;rw[if_pos h]
theorem y7W{rs}(h:(check6 rs).2=0):check rs=x5S rs 0:=by unfold check x5S;rw[if_neg (fun e=>e h)];rfl
end Cn
theorem z1O l cs os cv ov mr i vt w(C:Glob w)(h:Idx l w cv ov cs os)(g:PAt w mr (Cn.firstP l))(hi:i<l.length)(L:Sk .i32 w vt (l.getD i Cn.none).to) :
  Calls prog 92 #[xV cv ov (.map (some mr)),.int .i64 (i:Int),recV (l.getD i Cn.none) vt] w (IntB w (Cn.record l i (l.getD i Cn.none))):=by
 obtain⟨S,Q⟩:=Cn.x1H h.ok;have o:l.getD i Cn.none∈l:=n7C;have u:=Q _ o;have T:=Cn.z3R (l:=l) (i:=i) hi;generalize l.getD i Cn.none=r at *;by_cases G:r.kind=6\/r.kind=7\/r.kind=8
 ·have X:r.kind≠15:=f6J;obtain⟨f,U,B⟩:=Cn.x0p u X;have W:Rune r.lo:=(by unfold Rune;exact f6J);by_cases N:r.lo<128
  ·rw[Cn.y6A u G N];obtain⟨s,Z,rfl,_,_⟩:=h.rc.shape;obtain⟨P,D,rfl,_,_⟩:=h.ro.shape;obtain⟨A,a,rfl,_,_⟩:=L.shape;exact z4I _ _ _ _ _ _ _ _ _ _ _ r.kind r.lo r.hi r.n r.to r.name r.other r.wt w G N
  ·obtain⟨F,lo,K,I,z,y,M,J⟩:=r;rcases G with R | k7 | k8
   ·simp only at R;subst R;have:=q1r l cs os cv ov mr i lo K I z y M J vt w h L N;by_cases p:touches ⟨6,lo,K,I,z,y,M,J⟩=true
    ·rw[if_pos p]at this;rw[Cn.x2r (.inl rfl) N (by rw[p];rfl)];exact this
    ·rw[if_neg p]at this;rw[Cn.x3K (.inl rfl) N u7l,if_pos rfl];exact this
   ·simp only at k7;subst k7;obtain⟨⟨c,d⟩,b⟩:=Cn.x0v (Cn.x0C u rfl).2.2;simp only at c d b
    have E:Rune (z.getD 0 0):=by
     have:=o0d (b (z.getD 0 0) (x6f f6J));unfold Rune;omega
    have x:Rune (z.getD 1 0):=by
     have:=o0d (b (z.getD 1 0) (x6f f6J));unfold Rune;omega
    have:=q1s l cs os cv ov mr i lo K I z y M J vt w C h L N W f6J E x g;by_cases p:(touches ⟨7,lo,K,I,z,y,M,J⟩||makes (z.getD 0 0) (z.getD 1 0))=true
    ·rw[if_pos p]at this;rw[Cn.x2r (.inr (.inl rfl)) N u7l];exact this
    ·rw[if_neg p]at this;rw[Cn.x3K (.inr (.inl rfl)) N u7l,if_neg (e8N:¬(7:Int)=6)];by_cases m:Cn.wfull l lo≠0
     ·rw[if_pos m]at this;rw[if_pos m];exact this
     ·rw[if_neg m]at this;rw[if_neg m,T rfl];by_cases Y:Cn.bad7 l i ⟨7,lo,K,I,z,y,M,J⟩=true
      ·have H:=Y;unfold Cn.bad7 at H;rw[if_pos H]at this;rw[if_pos ⟨rfl,by rw[Y];rfl⟩];exact this
      ·have H:=Y;unfold Cn.bad7 at H;rw[if_neg H]at this;rw[if_neg (fun q=>Y (by simpa using q.2))];exact this
   ·simp only at k8;subst k8;have:=q1t l cs os cv ov mr i lo K I z y M J vt w C h L N W;by_cases p:touches ⟨8,lo,K,I,z,y,M,J⟩=true
    ·rw[if_pos p]at this;rw[Cn.x2r (.inr (.inr rfl)) N (by rw[p];rfl)];exact this
    ·rw[if_neg p]at this
     have e:Cn.record l i ⟨8,lo,K,I,z,y,M,J⟩=Cn.wfull l lo:=by
      rw[Cn.x3K (.inr (.inr rfl)) N u7l,if_neg (e8N:¬(8:Int)=6)];by_cases m:Cn.wfull l lo≠0
      ·rw[if_pos m]
      ·rw[if_neg m,if_neg (fun q=>absurd q.1 (e8N:¬(8:Int)=7))];exact(Decidable.not_not.1 m).symm
     rw[e];exact this
 ·rw[Cn.y3c f6J f6J f6J];obtain⟨s,Z,rfl,_,_⟩:=h.rc.shape;obtain⟨P,D,rfl,_,_⟩:=h.ro.shape;obtain⟨A,a,rfl,_,_⟩:=L.shape;exact z1N _ _ _ _ _ _ _ _ _ _ _ r.kind r.lo r.hi r.n r.to r.name r.other r.wt w f6J f6J f6J
theorem z8V:z8B:=by
 intro v l w C N;have K6:=O (y7X v l w C N);have I:Hid ((Cn.check6 l).2≠0->Cn.check l=Cn.check6 l):=Cn.y5n;have aB:Hid ((Cn.check6 l).2=0->Cn.check l=Cn.x5S l 0/\∀W,Bw w W->Calls prog 91 #[v] W (y7j W l)):=fun h=>⟨Cn.y7W h,fun W R=>y1j v l W (N.below R) h⟩;have HV:Hid (∀W,Bw w W->Rcs W v l):=fun W R=>N.below R;have HG:Hid (∀W,Bw w W->Glob W):=fun W R=>C.on R;have KB:Hid (∀W,Bw w W->Calls prog 93 #[v] W (x0g W (Cn.baseA l 78 45))):=fun W R=>y2G v l W (C.on R) (N.below R);have aq:=O (Cn.z1o l);have X:=O (fun i hi=>N.fit (i:=i) hi);generalize Cn.check l=res,Cn.check6 l=q at *;obtain⟨q1,q2⟩:=q;have aI:=N.1;obtain⟨ao,aJ,rfl,_,_⟩:=N.shape;go_enter func49,ntmps49;go_wp2_with fail;refine c0m K6 fun Q F=>?_;by_cases hq:q2=0
 ·obtain⟨J,L⟩:=V aB hq;obtain rfl:q2=0:=hq;have KI:=O (L Q F);have x:=O J;go_wp2_with fail;refine(V KI).mono ?_;rintro e t ⟨cv,ov,M,u,rfl,hI,hP,aG⟩;have d:=bthen F aG;obtain⟨s,Z,rfl,_,_⟩:=hI.rc.shape;obtain⟨P,D,rfl,_,_⟩:=hI.ro.shape;unfold xV;have p:Bw t (t.alloc (.cells #[.slice s M.length Z,.slice P u.length D,.map (some (Q.heap.size+1))] 168)):=(b0r).alloc (l0r _) _
  have c:(t.alloc (.cells #[.slice s M.length Z,.slice P u.length D,.map (some (Q.heap.size+1))] 168)).heap[t.heap.size]?=some (.cells #[.slice s M.length Z,.slice P u.length D,.map (some (Q.heap.size+1))] 168 (0,0)):=by
   show(t.heap.push _)[t.heap.size]?=_;simp
  have ab:(t.alloc (.cells #[.slice s M.length Z,.slice P u.length D,.map (some (Q.heap.size+1))] 168)).heap.size=t.heap.size+1:=M7N;have H:Hid (∀W,Below (t.heap.size+1) (t.alloc (.cells #[.slice s M.length Z,.slice P u.length D,.map (some (Q.heap.size+1))] 168)) W->Bw t W):=fun W R=>p.trans (R.mono f6J)
  have aD:Hid (∀W,Below (t.heap.size+1) (t.alloc (.cells #[.slice s M.length Z,.slice P u.length D,.map (some (Q.heap.size+1))] 168)) W->W.cell? ⟨t.heap.size,0,none⟩=some (.slice s M.length Z)/\W.cell? ⟨t.heap.size,1,none⟩=some (.slice P u.length D)/\W.cell? ⟨t.heap.size,2,none⟩=some (.map (some (Q.heap.size+1)))):=fun W R=>by
   have hx:=(R.block (t.heap.size) f6J).trans c;exact⟨cell_of (j:=0) hx T7c,cell_of (j:=1) hx f2P,cell_of (j:=2) hx U4w⟩
  have aC:Hid (∀i vt W,i<l.length->Bw t W->Sk .i32 W vt (l.getD i Cn.none).to->Calls prog 92 #[.agg #[.slice s M.length Z,.slice P u.length D,.map (some (Q.heap.size+1))],.int .i64 (i:Int),recV (l.getD i Cn.none) vt] W (IntB W (Cn.record l i (l.getD i Cn.none)))):=fun i vt W hi R hs=>by
   obtain⟨es,cl,p1,p2⟩:=hP;exact z1O l M u _ _ _ i vt W (V HG W (bthen d R)) (hI.below R) ⟨es,cl,by rw[R.block _ (x0D p1)];exact p1,p2⟩ hi hs
  have T:=O d;go_wp2;go_loopw[7,8,9,23] (fun _ _ _ iv wr=>∃k:Nat,iv=.int .i64 k/\k<=l.length/\Hid (res=Cn.x5S l k)/\Hid (Below (t.heap.size+1) (t.alloc (.cells #[.slice s M.length Z,.slice P u.length D,.map (some (Q.heap.size+1))] 168)) wr)) (fun _ _ _ iv _=>l.length-(intOf iv).toNat)
  case atStart=>exact⟨0,rfl,f6J,x,b0r⟩
  case round =>
   obtain⟨k,rfl,hk,x,Y⟩:=hrel;have B:=V H wr (V Y);have z:Bw w wr:=bthen (V T) B;by_cases E:k<l.length
   ·obtain⟨b,aN,aH,ev,_,_,af⟩:=(V HV wr z).place f6J;simp only[Value.slice.injEq]at ev;obtain⟨rfl,_,rfl⟩:=ev;obtain⟨x0,x1,x2,x3,⟨vt,x4,f⟩,x5,x6,x7⟩:=af k E;obtain⟨A,ae,rfl,_,_⟩:=f.shape;have g:∀o,Bw wr (wr.alloc o):=fun o=>(b0r).alloc (l0r _) _;have ag:∀o,Below (t.heap.size+1) (t.alloc (.cells #[.slice s M.length Z,.slice P u.length D,.map (some (Q.heap.size+1))] 168)) (wr.alloc o):=fun o=>(V Y).trans ((g o).mono (by have:=(V Y).size;rw[ab]at this;exact f6J));have KK:=O (V aC k _ (wr.alloc (.cells #[.int .i64 (l.getD k Cn.none).kind,.int .i64 (l.getD k Cn.none).lo,.int .i64 (l.getD k Cn.none).hi,.int .i64 (l.getD k Cn.none).n,.slice A (l.getD k Cn.none).to.length ae,.string (l.getD k Cn.none).name,.string (l.getD k Cn.none).other,.float .f64 (l.getD k Cn.none).wt] 60)) E (bthen B (g _)) (f.below (g _)));obtain⟨y0,y1,y2⟩:=V aD _ (ag (.cells #[.int .i64 (l.getD k Cn.none).kind,.int .i64 (l.getD k Cn.none).lo,.int .i64 (l.getD k Cn.none).hi,.int .i64 (l.getD k Cn.none).n,.slice A (l.getD k Cn.none).to.length ae,.string (l.getD k Cn.none).name,.string (l.getD k Cn.none).other,.float .f64 (l.getD k Cn.none).wt] 60));have aj:=O (ag (.cells #[.int .i64 (l.getD k Cn.none).kind,.int .i64 (l.getD k Cn.none).lo,.int .i64 (l.getD k Cn.none).hi,.int .i64 (l.getD k Cn.none).n,.slice A (l.getD k Cn.none).to.length ae,.string (l.getD k Cn.none).name,.string (l.getD k Cn.none).other,.float .f64 (l.getD k Cn.none).wt] 60));have ar:Hid (Cn.record l k (l.getD k Cn.none)≠0->res=(k,Cn.record l k (l.getD k Cn.none))):=fun h=>(V x).trans (Cn.z1p E h);have S:Hid (Cn.record l k (l.getD k Cn.none)=0->res=Cn.x5S l (k+1)):=fun h=>(V x).trans (Cn.y6W E h);have az:=(V Y).size;rw[ab]at az;unfold recV at KK;generalize Cn.record l k (l.getD k Cn.none)=y at *;generalize l.getD k Cn.none=r at *;have aK:∀W a m,(store a (.float .f64 r.wt) m).run prog W=stored prog W a (.float .f64 r.wt) m:=fun W a m=>run_store prog W a _ m rfl;go_wp2_with fail;refine c0m KK fun w4 ai=>?_;have am:Hid (Below (t.heap.size+1) (t.alloc (.cells #[.slice s M.length Z,.slice P u.length D,.map (some (Q.heap.size+1))] 168)) w4):=(V aj).trans (ai.mono (by have:=(V aj).size;rw[ab]at this;exact this));have aA:Hid (Bw w w4):=bthen (V T) (V H w4 (V am));by_cases hy:y=0
    ·have HN:=O (V S hy);obtain rfl:y=0:=hy;go_wp2
     go_roundw
     case rel=>exact⟨k+1,g2A,f6J,HN,am⟩
     case measure=>exact g7T
    ·obtain rfl:=V ar hy;have aM:(y != 0)=true:=(by simp[hy]);have U:x3R w (k,y) (.returned (.tuple #[.int .i64 (k:Int),.int .i64 y])) w4:=⟨rfl,V aA⟩;exact v6t
   ·obtain rfl:k=l.length:=f6J;have aF:=O (V KB wr z);have J:=(V x).trans (V aq);have K:=O J;have G:=O z;generalize Cn.baseA l 78 45=bb at *;go_wp2_with fail;refine c0m aF fun w4 ai=>?_;have aw:=bthen (V G) ai;cases bb
    ·obtain rfl:res=(l.length,70):=V K;have U:x3R w (l.length,70) (.returned (.tuple #[.int .i64 (l.length:Int),.int .i64 70])) w4:=⟨rfl,aw⟩;exact v6t
    ·obtain rfl:res=(0,0):=V K;have U:x3R w (0,0) (.returned (.tuple #[.int .i64 0,.int .i64 0])) w4:=⟨rfl,aw⟩;exact v6t
 ·obtain rfl:=V I hq;have aL:(q2 != 0)=true:=(by simp[hq]);have U:x3R w (q1,q2) (.returned (.tuple #[.int .i64 (q1:Int),.int .i64 q2])) Q:=⟨rfl,F⟩;exact v6t
