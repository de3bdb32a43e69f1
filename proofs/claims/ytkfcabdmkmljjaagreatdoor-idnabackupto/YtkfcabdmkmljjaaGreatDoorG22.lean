/- Lemmas. -/
import Derived.Test.YtkfcabdmkmljjaaGreatDoorG13
import Derived.Test.YtkfcabdmkmljjaaGreatDoorG20
set_option maxHeartbeats 16000000
set_option maxRecDepth 20000
namespace Go.Proofs.YtkfcabdmkmljjaaGreatDoor
open Go.Proofs.Tryz
open Go.RowKit
section
variable{p:Prop}
theorem U7v(h:p:=by(intro w hSw;obtain⟨rs,X,k,d,L⟩:=(congrFun I _).mpr hSw;obtain⟨g,A,s,C,u,T,q,x⟩:=cells8 rs;obtain⟨s8,n,G⟩:=cells3 X;go_simp)):p:=h
theorem G5X(h:p:=by simpa using U):p:=h
theorem V2l(h:p:=by(intro w hSw;obtain⟨rs,X,k⟩:=(congrFun I _).mpr hSw;obtain⟨s0,s1,s2,s3,s4,s5,s6,s7⟩:=cells8 rs;obtain⟨s8,s9,ai⟩:=cells3 X;go_simp)):p:=h
theorem w7g(h:p:=by(intro w hSw;obtain⟨rs,X,k⟩:=(congrFun I _).mpr hSw;obtain⟨g,s1,s,C,s4,T,s6,x⟩:=cells8 rs;obtain⟨H,s9,G⟩:=cells3 X;go_simp)):p:=h
theorem W4c(h:p:=by show((w.heap.push _).push _)[w.heap.size+1]?=_;rw[Array.getElem?_push];simp):p:=h
theorem e3z(h:p:=by rw[<- n];exact((b0r).alloc (l0r _) _).alloc (by simp) _):p:=h
theorem I5B(h:p:=by have U:=V v W1 71 j;clear r t v KT ag KW KM KP ab N b j hHeld HR;exact m2K):p:=h
theorem M3w(h:p:=by clear r t v K3 K4 am aq f ai hHeld HR N KP ab af y j;exact m2K):p:=h
theorem t7M(h:p:=by simp[IntKind.wrap,IntKind.bits,IntKind.signed];omega):p:=h
end
theorem q1J(l cs m:List Rec)(cv ov:Value)(A i:Nat)(lo hi E:Int)(Y:List Int)(c M:ByteArray)(wt:Nat)(vt:Value)(w:World)(h:Idx l w cv ov cs m)(L:Sk .i32 w vt Y)(y:¬lo<128) :
  Calls prog 92 #[xV cv ov (.map (some A)),.int .i64 (i:Int),recV (⟨6,lo,hi,E,Y,c,M,wt⟩:Rec) vt] w (IntB w (if touches (⟨6,lo,hi,E,Y,c,M,wt⟩:Rec)=true then 71 else 0)):=by
 obtain⟨p,D,rfl,_,_⟩:=h.rc.shape;obtain⟨Z,B,rfl,_,_⟩:=h.ro.shape;obtain⟨d,J,rfl,_,_⟩:=L.shape;obtain⟨Q,n⟩:∃Q,((w.alloc (.cells #[.slice p cs.length D,.slice Z m.length B,.map (some A)] 168)).alloc (.cells #[.int .i64 6,.int .i64 lo,.int .i64 hi,.int .i64 E,.slice d Y.length J,.string c,.string M,.float .f64 wt] 60))=Q:=⟨_,rfl⟩;have f:Bw w Q:=e3z;have af:Q.heap.size=w.heap.size+2:=by rw[<- n];simp
 have ae:Q.heap[w.heap.size]?=some (.cells #[.slice p cs.length D,.slice Z m.length B,.map (some A)] 168 (0,0)):=by
  rw[<- n];exact n9Y
 have ab:Q.heap[w.heap.size+1]?=some (.cells #[.int .i64 6,.int .i64 lo,.int .i64 hi,.int .i64 E,.slice d Y.length J,.string c,.string M,.float .f64 wt] 60 (0,0)):=by
  rw[<- n];exact W4c
 have a:Hid (∀W:World,Bw Q W->Bw w W):=fun W P=>f.trans (P.mono f6J);obtain⟨SP,I⟩:∃SP:World->Prop,(fun W=>(W.heap[w.heap.size+1]?=some (.cells #[.int .i64 6,.int .i64 lo,.int .i64 hi,.int .i64 E,.slice d Y.length J,.string c,.string M,.float .f64 wt] 60 (0,0))/\W.heap[w.heap.size]?=some (.cells #[.slice p cs.length D,.slice Z m.length B,.map (some A)] 168 (0,0))/\Hid (Bw Q W)))=SP:=⟨_,rfl⟩
 have r:Hid (∀W:World,Bw Q W->SP W):=fun W P=>by
  rw[<- I];have hx:=(P.block (w.heap.size) f6J).trans ae;have u:=(P.block (w.heap.size+1) f6J).trans ab;exact⟨u,hx,P⟩
 have KT:Hid (∀W:World,Calls prog 138 #[.agg #[.int .i64 6,.int .i64 lo,.int .i64 hi,.int .i64 E,.slice d Y.length J,.string c,.string M,.float .f64 wt]] W (x0g W (touches (⟨6,lo,hi,E,Y,c,M,wt⟩:Rec)))):=fun W=>x3M (⟨6,lo,hi,E,Y,c,M,wt⟩:Rec) _ _ _ W;have R:Bw Q Q.drew:=x0i ⟨1,rfl⟩;have t:=O (V r _ R);have v:Hid (∀W z,Bw Q W->IntB w z (.returned (.int .i64 z)) W):=fun W z P=>⟨rfl,V a W P⟩;have q:=O (V KT Q.drew);generalize touches (⟨6,lo,hi,E,Y,c,M,wt⟩:Rec)=tc at *;subst n;unfold xV recV;clear ae ab f h L;cases tc
 ·rw[if_neg e8O];go_enter func92,ntmps92;go_wp2;refine wp_region_held_drew (S:=fun o=>SP o) f4y (V t) (fun hHeld=>?_);refine tk9 0 (.agg #[.int .i64 6,.int .i64 lo,.int .i64 hi,.int .i64 E,.slice d Y.length J,.string c,.string M,.float .f64 wt]) ?_ (hy:=w7g);refine rd9 1 fun K hK=>?_;go_simp;refine c0m q fun N F=>?_;have j:=bthen R F;have b:=O (V r N j);refine hK.out _ _ ?_ (fun hHeld=>?_)
  ·exact V b
  clear hK K
  try simp only[Act.put,sa9,sb9,sc9]
  refine tk9 2 (.bool false) ?_;refine tk9 3 (.bool false) ?_;refine tk9 4 (.bool false) ?_;refine tn9 5 ?_;refine tn9 6 ?_;refine tn9 7 ?_;refine tn9 8 ?_;refine tn9 9 ?_;refine tn9 10 ?_;refine tn9 11 ?_;refine tn9 12 ?_;refine tn9 13 ?_;refine tk9 14 (.bool false) ?_;refine tk9 15 (.bool false) ?_;refine tk9 16 (.bool false) ?_;refine wpAnyH_done f4y ?_ _;go_wp2;refine wp_region_held_drew (S:=fun _=>True) f4y trivial (fun hHeld=>?_);refine tk9 0 (.bool false) ?_;refine tk9 1 (.bool false) ?_;refine tn9 2 ?_;refine tn9 3 ?_;refine tn9 4 ?_;refine tn9 5 ?_;refine tn9 6 ?_;refine tn9 7 ?_;refine tn9 8 ?_;refine tn9 9 ?_;refine tn9 10 ?_;refine tn9 11 ?_;refine tn9 12 ?_;refine tn9 13 ?_;refine tn9 14 ?_;refine tn9 15 ?_;refine tn9 16 ?_;refine tn9 17 ?_;refine tn9 18 ?_;refine tn9 19 ?_;refine tn9 20 ?_;refine tn9 21 ?_;refine tn9 22 ?_;refine tn9 23 ?_;refine tk9 24 (.bool false) ?_;refine wpAnyH_done f4y ?_ _;have U:=V v N.drew 0 (bthen j (x0i ⟨1,rfl⟩));clear r t v KT q b j hHeld;exact m2I
 ·rw[if_pos rfl];go_enter func92,ntmps92;go_wp2;refine wp_region_held_drew (S:=fun o=>SP o) f4y (V t) (fun hHeld=>?_);refine tk9 0 (.agg #[.int .i64 6,.int .i64 lo,.int .i64 hi,.int .i64 E,.slice d Y.length J,.string c,.string M,.float .f64 wt]) ?_ (hy:=w7g);refine rd9 1 fun K hK=>?_;go_simp;refine c0m q fun N F=>?_;have j:=bthen R F;have b:=O (V r N j);refine hK.out _ _ ?_ (fun hHeld=>?_)
  ·exact V b
  clear hK K
  try simp only[Act.put,sa9,sb9,sc9]
  refine tk9 2 (.bool true) ?_;refine tn9 3 ?_;refine tn9 4 ?_;refine tn9 5 ?_;refine tn9 6 ?_;refine tn9 7 ?_;refine tn9 8 ?_;refine tn9 9 ?_;refine tn9 10 ?_;refine tn9 11 ?_;refine tn9 12 ?_;refine tn9 13 ?_;refine tn9 14 ?_;refine tk9 15 (.bool true) ?_;refine tk9 16 (.bool true) ?_;refine wpAnyH_done f4y ?_ _;have U:=V v N 71 j;clear r t v KT q b j hHeld;exact m2I
theorem q1K(l cs m:List Rec)(cv ov:Value)(mr i:Nat)(lo hi nn:Int)(Y:List Int)(c M:ByteArray)(wt:Nat)(vt:Value)(w:World)(hg:Glob w)(h:Idx l w cv ov cs m)(hs:Sk .i32 w vt Y)(aT:¬lo<128)(ay:Rune lo)(E:Y.length=2)(az:Rune (Y.getD 0 0))(aA:Rune (Y.getD 1 0))(hp:PAt w mr (Cn.firstP l)) :
  Calls prog 92 #[xV cv ov (.map (some mr)),.int .i64 (i:Int),recV (⟨7,lo,hi,nn,Y,c,M,wt⟩:Rec) vt] w (IntB w (if(touches (⟨7,lo,hi,nn,Y,c,M,wt⟩:Rec)||makes (Y.getD 0 0) (Y.getD 1 0))=true then 71 else if Cn.wfull l lo≠0 then Cn.wfull l lo else if(decide ((Cn.firstP l (Y.getD 0 0) (Y.getD 1 0)).getD 0<(i:Int))||Cn.wpair l lo (Y.getD 0 0) (Y.getD 1 0))=true then 74 else 0)):=by
 obtain⟨p,D,rfl,_,_⟩:=h.rc.shape;obtain⟨Z,B,rfl,_,_⟩:=h.ro.shape;obtain⟨tb,H,J,rfl,_,_,ae⟩:=hs.place f6J;have aj:=ae 0 f6J;have aJ:=ae 1 f6J;rw[Nat.add_zero]at aj;have aB:Hid (Sk .i32 w (.slice (some ⟨tb,H,none⟩) 2 J) Y):=E ▸ hs;obtain⟨Q,hQ⟩:∃Q,((w.alloc (.cells #[.slice p cs.length D,.slice Z m.length B,.map (some mr)] 168)).alloc (.cells #[.int .i64 7,.int .i64 lo,.int .i64 hi,.int .i64 nn,.slice (some ⟨tb,H,none⟩) 2 J,.string c,.string M,.float .f64 wt] 60))=Q:=⟨_,rfl⟩;have aC:Bw w Q:=(by rw[<- hQ];exact((b0r).alloc (l0r _) _).alloc M7N _);have aV:Q.heap.size=w.heap.size+2:=by rw[<- hQ];exact M7N
 have aI:Q.heap[w.heap.size]?=some (.cells #[.slice p cs.length D,.slice Z m.length B,.map (some mr)] 168 (0,0)):=by
  rw[<- hQ];exact n9Y
 have aH:Q.heap[w.heap.size+1]?=some (.cells #[.int .i64 7,.int .i64 lo,.int .i64 hi,.int .i64 nn,.slice (some ⟨tb,H,none⟩) 2 J,.string c,.string M,.float .f64 wt] 60 (0,0)):=by
  rw[<- hQ];exact W4c
 have a:Hid (∀W:World,Bw Q W->Bw w W):=fun W P=>aC.trans (P.mono f6J);obtain⟨SP,I⟩:∃SP:World->Prop,(fun W=>(W.heap[w.heap.size+1]?=some (.cells #[.int .i64 7,.int .i64 lo,.int .i64 hi,.int .i64 nn,.slice (some ⟨tb,H,none⟩) 2 J,.string c,.string M,.float .f64 wt] 60 (0,0))/\W.heap[w.heap.size]?=some (.cells #[.slice p cs.length D,.slice Z m.length B,.map (some mr)] 168 (0,0))/\W.cell? ⟨tb,H,none⟩=some (.int .i32 (Y.getD 0 0))/\W.cell? ⟨tb,H+1,none⟩=some (.int .i32 (Y.getD 1 0))/\Hid (Bw Q W)))=SP:=⟨_,rfl⟩
 have r:Hid (∀W:World,Bw Q W->SP W):=fun W P=>by
  rw[<- I];have hx:=(P.block (w.heap.size) f6J).trans aI;have hr:=(P.block (w.heap.size+1) f6J).trans aH;exact⟨hr,hx,by rw[(V a W P).cell (x0a aj)];exact aj,by rw[(V a W P).cell (x0a aj)];exact aJ,P⟩
 have KT:Hid (∀W:World,Calls prog 138 #[.agg #[.int .i64 7,.int .i64 lo,.int .i64 hi,.int .i64 nn,.slice (some ⟨tb,H,none⟩) 2 J,.string c,.string M,.float .f64 wt]] W (x0g W (touches (⟨7,lo,hi,nn,Y,c,M,wt⟩:Rec)))):=fun W=>x3M (⟨7,lo,hi,nn,Y,c,M,wt⟩:Rec) _ _ _ W;have KW:Hid (∀W:World,Bw Q W->Calls prog 140 #[.agg #[.slice p cs.length D,.slice Z m.length B,.map (some mr)],.int .i32 lo] W (IntB W (Cn.wfull l lo))):=fun W P=>y2i l cs m _ _ mr lo W (hg.on (V a W P)) (h.below (V a W P)) ay
 have aU:IntKind.i32.wrap lo=lo:=by
  unfold Rune at ay;exact t7M
 have KM:Hid (∀W:World,Calls prog 139 #[.int .i32 (Y.getD 0 0),.int .i32 (Y.getD 1 0)] W (fun e o=>e=.returned (.bool (makes (Y.getD 0 0) (Y.getD 1 0)))/\o=W)):=fun W=>y9V _ _ W;have ab:Hid (∀W:World,Bw Q W->Calls prog 135 #[.agg #[.int .i64 7,.int .i64 lo,.int .i64 hi,.int .i64 nn,.slice (some ⟨tb,H,none⟩) 2 J,.string c,.string M,.float .f64 wt]] W (fun e o=>e=.returned (pk2 (Y.getD 0 0) (Y.getD 1 0))/\Bw W o)):=fun W P=>x8K (⟨7,lo,hi,nn,Y,c,M,wt⟩:Rec) _ W ((V aB).below (V a W P)) E;have KP:Hid (∀W:World,Bw Q W->Calls prog 141 #[.agg #[.slice p cs.length D,.slice Z m.length B,.map (some mr)],.int .i32 lo,.int .i32 (Y.getD 0 0),.int .i32 (Y.getD 1 0)] W (x0g W (Cn.wpair l lo (Y.getD 0 0) (Y.getD 1 0)))):=fun W P=>z1R l cs m _ _ mr lo _ _ W (hg.on (V a W P)) (h.below (V a W P)) ay az aA
 have N:Hid (∀W:World,Bw Q W->(Instr.lookup 166 (.map (some mr)) (pk2 (Y.getD 0 0) (Y.getD 1 0)) false).run prog W=.ok (.int .i64 ((Cn.firstP l (Y.getD 0 0) (Y.getD 1 0)).getD 0)) W):=fun W P=>by
  obtain⟨es,cl,q1,q2⟩:=hp;exact(look_ok ⟨es,cl,by rw[(V a W P).block _ (x0D q1)];exact q1,q2⟩ az aA).2
 have ar:Bw Q Q.drew:=x0i ⟨1,rfl⟩;have t:=O (V r _ ar);have v:Hid (∀W z,Bw Q W->IntB w z (.returned (.int .i64 z)) W):=fun W z P=>⟨rfl,V a W P⟩;have ag:=O (V KT Q.drew);rw[E];clear E hs hp az aA ae aj aJ aB;generalize Cn.wpair l lo (Y.getD 0 0) (Y.getD 1 0)=wp,(Cn.firstP l (Y.getD 0 0) (Y.getD 1 0)).getD 0=fp,makes (Y.getD 0 0) (Y.getD 1 0)=mk at *;generalize Y.getD 0 0=pa,Y.getD 1 0=pb at *;unfold pk2 at *;generalize touches (⟨7,lo,hi,nn,Y,c,M,wt⟩:Rec)=tc,Cn.wfull l lo=wf at *;subst hQ;unfold xV recV;clear aI aH aC h hg;obtain⟨R,hR⟩:∃R,(if(tc||mk)=true then 71 else if wf≠0 then wf else if(decide (fp<(i:Int))||wp)=true then 74 else 0)=R:=⟨_,rfl⟩;rw[hR];have HR:=O hR;clear hR;cases tc
 ·go_enter func92,ntmps92;go_wp2;refine wp_region_held_drew (S:=fun o=>SP o) f4A (V t) (fun hHeld=>?_);refine tk9 0 (.agg #[.int .i64 7,.int .i64 lo,.int .i64 hi,.int .i64 nn,.slice (some ⟨tb,H,none⟩) 2 J,.string c,.string M,.float .f64 wt]) ?_ (hy:=U7v);refine rd9 1 fun K hK=>?_;go_simp;refine c0m ag fun W1 F=>?_;have j:=bthen ar F;have b:=O (V r W1 j);refine hK.out _ _ ?_ (fun hHeld=>?_)
  ·exact V b
  clear hK K
  try simp only[Act.put,sa9,sb9,sc9]
  refine tk9 2 (.bool false) ?_;refine tk9 3 (.bool true) ?_;refine tk9 4 (.bool true) ?_;refine tk9 5 (.pointer (some ⟨w.heap.size+1,4,none⟩)) ?_ (hy:=U7v);refine tk9 6 (.slice (some ⟨tb,H,none⟩) 2 J) ?_ (hy:=U7v);refine tk9 7 (.pointer (some ⟨tb,H,none⟩)) ?_ (hy:=U7v);refine tk9 8 (.int .i32 pa) ?_ (hy:=U7v);refine tk9 9 (.pointer (some ⟨w.heap.size+1,4,none⟩)) ?_ (hy:=U7v);refine tk9 10 (.slice (some ⟨tb,H,none⟩) 2 J) ?_ (hy:=U7v);refine tk9 11 (.pointer (some ⟨tb,H+1,none⟩)) ?_ (hy:=U7v);refine tk9 12 (.int .i32 pb) ?_ (hy:=U7v);refine rd9 13 fun K hK=>?_;go_simp;refine(V KM _).mono ?_;rintro e aK ⟨rfl,aR⟩;subst aK;refine hK.out _ _ ?_ (fun hHeld=>?_)
  ·exact V b
  clear hK K
  try simp only[Act.put,sa9,sb9,sc9]
  refine tk9 14 (.bool mk) ?_;refine tk9 15 (.bool mk) ?_;refine tk9 16 (.bool mk) ?_;refine wpAnyH_done f4A ?_ _;cases mk;rotate_left
  ·obtain rfl:R=71:=(V HR).symm;exact I5B
  ·skip;obtain⟨rq,xq,aO,aP,aQ⟩:=(congrFun I _).mpr (V b);obtain⟨q0,q1,q2,q3,q4,q5,q6,q7⟩:=cells8 rq;obtain⟨q8,q9,aN⟩:=cells3 xq;clear rq xq;have K2:=O (V KW W1 j);clear b t KT ag KW KM hHeld;go_wp2_with fail;refine c0m K2 fun W2 aD=>?_;have af:=bthen j aD;clear K2 aD q0 q1 q2 q3 q4 q5 q6 q7 q8 q9 aN aO aP aQ;by_cases hz:wf=0
   ·subst hz;have y:Below _ _ W2.drew:=bthen af (x0i ⟨1,rfl⟩);have t:=O (V r _ y);have K3:=O (V ab _ y);go_wp2;refine wp_region_held_drew (S:=fun o=>SP o) f4A (V t) (fun hHeld=>?_);refine tk9 0 (.bool true) ?_;refine tk9 1 (.bool true) ?_;refine tk9 2 (.pointer (some ⟨w.heap.size,2,none⟩)) ?_ (hy:=U7v);refine tk9 3 (.map (some mr)) ?_ (hy:=U7v);refine tk9 4 (.agg #[.int .i64 7,.int .i64 lo,.int .i64 hi,.int .i64 nn,.slice (some ⟨tb,H,none⟩) 2 J,.string c,.string M,.float .f64 wt]) ?_ (hy:=U7v);refine tk9 7 (.int .i64 (i:Int)) ?_;refine rd9 5 fun K hK=>?_;go_simp;refine c0m K3 fun W3 aL=>?_;have f:=bthen y aL;have am:=O (V r W3 f);refine hK.out _ _ ?_ (fun hHeld=>?_)
    ·exact V am
    clear hK K
    try simp only[Act.put,sa9,sb9,sc9]
    refine tk9 6 (.int .i64 fp) ?_ (hy:=by(intro w hSw;obtain⟨rs,X,k,d,L⟩:=(congrFun I _).mpr hSw;obtain⟨g,A,s,C,u,T,q,x⟩:=cells8 rs;obtain⟨s8,n,G⟩:=cells3 X;have aS:=V N _ (V L);go_simp));refine tk9 8 (.bool (decide (fp<(i:Int)))) ?_;refine tk9 9 (.bool (decide (fp<(i:Int)))) ?_;by_cases aG:fp<(i:Int)
    ·have aF:decide (fp<(i:Int))=true:=d0t aG
     obtain rfl:R=74:=by
      rw[<- V HR,aF];simp
     rw[aF];refine tn9 10 ?_;refine tn9 11 ?_;refine tn9 12 ?_;refine tn9 13 ?_;refine tn9 14 ?_;refine tn9 15 ?_;refine tn9 16 ?_;refine tn9 17 ?_;refine tn9 18 ?_;refine tn9 19 ?_;refine tn9 20 ?_;refine tn9 21 ?_;refine tn9 22 ?_;refine tk9 23 (.bool true) ?_;refine tk9 24 (.bool true) ?_;refine wpAnyH_done f4A ?_ _;have U:=V v W3 74 f;clear r t v K3 am f hHeld HR N KP ab af y j;exact m2K
    ·have aw:decide (fp<(i:Int))=false:=d0f aG;rw[aw];have K4:=O (V KP W3 f);refine tk9 10 (.agg #[.slice p cs.length D,.slice Z m.length B,.map (some mr)]) ?_ (hy:=U7v);refine tk9 11 (.pointer (some ⟨w.heap.size+1,1,none⟩)) ?_ (hy:=U7v);refine tk9 12 (.int .i64 lo) ?_ (hy:=U7v);refine tk9 13 (.int .i32 lo) ?_ (hy:=U7v);refine tk9 14 (.pointer (some ⟨w.heap.size+1,4,none⟩)) ?_ (hy:=U7v);refine tk9 15 (.slice (some ⟨tb,H,none⟩) 2 J) ?_ (hy:=U7v);refine tk9 16 (.pointer (some ⟨tb,H,none⟩)) ?_ (hy:=U7v);refine tk9 17 (.int .i32 pa) ?_ (hy:=U7v);refine tk9 18 (.pointer (some ⟨w.heap.size+1,4,none⟩)) ?_ (hy:=U7v);refine tk9 19 (.slice (some ⟨tb,H,none⟩) 2 J) ?_ (hy:=U7v);refine tk9 20 (.pointer (some ⟨tb,H+1,none⟩)) ?_ (hy:=U7v);refine tk9 21 (.int .i32 pb) ?_ (hy:=U7v);refine rd9 22 fun K hK=>?_;go_simp;refine c0m K4 fun W4 aM=>?_;have ai:=bthen f aM;have aq:=O (V r W4 ai);refine hK.out _ _ ?_ (fun hHeld=>?_)
     ·exact V aq
     clear hK K
     try simp only[Act.put,sa9,sb9,sc9]
     refine tk9 23 (.bool wp) ?_;refine tk9 24 (.bool wp) ?_;refine wpAnyH_done f4A ?_ _;cases wp
     ·obtain rfl:R=0:=by
       rw[<- V HR,aw];simp
      have U:=V v W4 0 ai;exact M3w
     ·obtain rfl:R=74:=by
       rw[<- V HR,aw];simp
      have U:=V v W4 74 ai;exact M3w
   ·have aW:(wf != 0)=true:=(by simp[hz]);obtain rfl:R=wf:=(by rw[<- V HR];simp[hz]);have U:=V v W2 R af;clear hz;clear r v af HR N KP ab j;exact m2K
 ·obtain rfl:R=71:=(V HR).symm;go_enter func92,ntmps92;go_wp2;refine wp_region_held_drew (S:=fun o=>SP o) f4A (V t) (fun hHeld=>?_);refine tk9 0 (.agg #[.int .i64 7,.int .i64 lo,.int .i64 hi,.int .i64 nn,.slice (some ⟨tb,H,none⟩) 2 J,.string c,.string M,.float .f64 wt]) ?_ (hy:=U7v);refine rd9 1 fun K hK=>?_;go_simp;refine c0m ag fun W1 F=>?_;have j:=bthen ar F;have b:=O (V r W1 j);refine hK.out _ _ ?_ (fun hHeld=>?_)
  ·exact V b
  clear hK K
  try simp only[Act.put,sa9,sb9,sc9]
  refine tk9 2 (.bool true) ?_;refine tn9 3 ?_;refine tn9 4 ?_;refine tn9 5 ?_;refine tn9 6 ?_;refine tn9 7 ?_;refine tn9 8 ?_;refine tn9 9 ?_;refine tn9 10 ?_;refine tn9 11 ?_;refine tn9 12 ?_;refine tn9 13 ?_;refine tn9 14 ?_;refine tk9 15 (.bool true) ?_;refine tk9 16 (.bool true) ?_;refine wpAnyH_done f4A ?_ _;exact I5B
theorem q1L(l cs m:List Rec)(cv ov:Value)(A i:Nat)(lo hi E:Int)(Y:List Int)(c M:ByteArray)(wt:Nat)(vt:Value)(w:World)(C:Glob w)(h:Idx l w cv ov cs m)(L:Sk .i32 w vt Y)(aj:¬lo<128)(ab:Rune lo) :
  Calls prog 92 #[xV cv ov (.map (some A)),.int .i64 (i:Int),recV (⟨8,lo,hi,E,Y,c,M,wt⟩:Rec) vt] w (IntB w (if touches (⟨8,lo,hi,E,Y,c,M,wt⟩:Rec)=true then 71 else Cn.wfull l lo)):=by
 obtain⟨p,D,rfl,_,_⟩:=h.rc.shape;obtain⟨Z,B,rfl,_,_⟩:=h.ro.shape;obtain⟨d,J,rfl,_,_⟩:=L.shape;obtain⟨Q,n⟩:∃Q,((w.alloc (.cells #[.slice p cs.length D,.slice Z m.length B,.map (some A)] 168)).alloc (.cells #[.int .i64 8,.int .i64 lo,.int .i64 hi,.int .i64 E,.slice d Y.length J,.string c,.string M,.float .f64 wt] 60))=Q:=⟨_,rfl⟩;have f:Bw w Q:=e3z;have aq:Q.heap.size=w.heap.size+2:=by rw[<- n];simp
 have af:Q.heap[w.heap.size]?=some (.cells #[.slice p cs.length D,.slice Z m.length B,.map (some A)] 168 (0,0)):=by
  rw[<- n];exact n9Y
 have ae:Q.heap[w.heap.size+1]?=some (.cells #[.int .i64 8,.int .i64 lo,.int .i64 hi,.int .i64 E,.slice d Y.length J,.string c,.string M,.float .f64 wt] 60 (0,0)):=by
  rw[<- n];exact W4c
 have a:Hid (∀W:World,Bw Q W->Bw w W):=fun W P=>f.trans (P.mono f6J);obtain⟨SP,I⟩:∃SP:World->Prop,(fun W=>(W.heap[w.heap.size+1]?=some (.cells #[.int .i64 8,.int .i64 lo,.int .i64 hi,.int .i64 E,.slice d Y.length J,.string c,.string M,.float .f64 wt] 60 (0,0))/\W.heap[w.heap.size]?=some (.cells #[.slice p cs.length D,.slice Z m.length B,.map (some A)] 168 (0,0))/\Hid (Bw Q W)))=SP:=⟨_,rfl⟩
 have r:Hid (∀W:World,Bw Q W->SP W):=fun W P=>by
  rw[<- I];have hx:=(P.block (w.heap.size) f6J).trans af;have hr:=(P.block (w.heap.size+1) f6J).trans ae;exact⟨hr,hx,P⟩
 have KT:Hid (∀W:World,Calls prog 138 #[.agg #[.int .i64 8,.int .i64 lo,.int .i64 hi,.int .i64 E,.slice d Y.length J,.string c,.string M,.float .f64 wt]] W (x0g W (touches (⟨8,lo,hi,E,Y,c,M,wt⟩:Rec)))):=fun W=>x3M (⟨8,lo,hi,E,Y,c,M,wt⟩:Rec) _ _ _ W;have KW:Hid (∀W:World,Bw Q W->Calls prog 140 #[.agg #[.slice p cs.length D,.slice Z m.length B,.map (some A)],.int .i32 lo] W (IntB W (Cn.wfull l lo))):=fun W P=>y2i l cs m _ _ A lo W (C.on (V a W P)) (h.below (V a W P)) ab
 have am:IntKind.i32.wrap lo=lo:=by
  unfold Rune at ab;exact t7M
 have R:Bw Q Q.drew:=x0i ⟨1,rfl⟩;have t:=O (V r _ R);have v:Hid (∀W z,Bw Q W->IntB w z (.returned (.int .i64 z)) W):=fun W z P=>⟨rfl,V a W P⟩;have q:=O (V KT Q.drew);generalize touches (⟨8,lo,hi,E,Y,c,M,wt⟩:Rec)=tc,Cn.wfull l lo=wf at *;subst n;unfold xV recV;clear af ae f h L C;cases tc
 ·rw[if_neg e8O];go_enter func92,ntmps92;go_wp2;refine wp_region_held_drew (S:=fun o=>SP o) f4y (V t) (fun hHeld=>?_);refine tk9 0 (.agg #[.int .i64 8,.int .i64 lo,.int .i64 hi,.int .i64 E,.slice d Y.length J,.string c,.string M,.float .f64 wt]) ?_ (hy:=V2l);refine rd9 1 fun K hK=>?_;go_simp;refine c0m q fun N F=>?_;have j:=bthen R F;have b:=O (V r N j);refine hK.out _ _ ?_ (fun hHeld=>?_)
  ·exact V b
  clear hK K
  try simp only[Act.put,sa9,sb9,sc9]
  refine tk9 2 (.bool false) ?_;refine tk9 3 (.bool false) ?_;refine tk9 4 (.bool false) ?_;refine tn9 5 ?_;refine tn9 6 ?_;refine tn9 7 ?_;refine tn9 8 ?_;refine tn9 9 ?_;refine tn9 10 ?_;refine tn9 11 ?_;refine tn9 12 ?_;refine tn9 13 ?_;refine tk9 14 (.bool false) ?_;refine tk9 15 (.bool false) ?_;refine tk9 16 (.bool false) ?_;refine wpAnyH_done f4y ?_ _;obtain⟨rq,xq,G⟩:=(congrFun I _).mpr (V b);obtain⟨q0,q1,s,q3,q4,y,q6,q7⟩:=cells8 rq;obtain⟨q8,q9,ag⟩:=cells3 xq;clear rq xq;have g:=O (V KW N j);clear b t KT q KW hHeld;go_wp2_with fail;refine c0m g fun x H=>?_;have u:=bthen j H;clear g H;by_cases T:wf=0
  ·subst T;go_wp2;refine wp_region_held_drew (S:=fun _=>True) f4y trivial (fun hHeld=>?_);refine tk9 0 (.bool false) ?_;refine tk9 1 (.bool false) ?_;refine tn9 2 ?_;refine tn9 3 ?_;refine tn9 4 ?_;refine tn9 5 ?_;refine tn9 6 ?_;refine tn9 7 ?_;refine tn9 8 ?_;refine tn9 9 ?_;refine tn9 10 ?_;refine tn9 11 ?_;refine tn9 12 ?_;refine tn9 13 ?_;refine tn9 14 ?_;refine tn9 15 ?_;refine tn9 16 ?_;refine tn9 17 ?_;refine tn9 18 ?_;refine tn9 19 ?_;refine tn9 20 ?_;refine tn9 21 ?_;refine tn9 22 ?_;refine tn9 23 ?_;refine tk9 24 (.bool false) ?_;refine wpAnyH_done f4y ?_ _;have U:=V v x.drew 0 (bthen u (x0i ⟨1,rfl⟩));clear r v u hHeld j q0 q1 s q3 q4 y q6 q7 q8 q9 ag G;exact m2I
  ·have ar:(wf != 0)=true:=(by simp[T]);have U:=V v x wf u;clear T;clear r v u j q0 q1 s q3 q4 y q6 q7 q8 q9 ag G;exact m2I
 ·rw[if_pos rfl];go_enter func92,ntmps92;go_wp2;refine wp_region_held_drew (S:=fun o=>SP o) f4y (V t) (fun hHeld=>?_);refine tk9 0 (.agg #[.int .i64 8,.int .i64 lo,.int .i64 hi,.int .i64 E,.slice d Y.length J,.string c,.string M,.float .f64 wt]) ?_ (hy:=V2l);refine rd9 1 fun K hK=>?_;go_simp;refine c0m q fun N F=>?_;have j:=bthen R F;have b:=O (V r N j);refine hK.out _ _ ?_ (fun hHeld=>?_)
  ·exact V b
  clear hK K
  try simp only[Act.put,sa9,sb9,sc9]
  refine tk9 2 (.bool true) ?_;refine tn9 3 ?_;refine tn9 4 ?_;refine tn9 5 ?_;refine tn9 6 ?_;refine tn9 7 ?_;refine tn9 8 ?_;refine tn9 9 ?_;refine tn9 10 ?_;refine tn9 11 ?_;refine tn9 12 ?_;refine tn9 13 ?_;refine tn9 14 ?_;refine tk9 15 (.bool true) ?_;refine tk9 16 (.bool true) ?_;refine wpAnyH_done f4y ?_ _;have U:=V v N 71 j;clear r t v KT q KW b j hHeld;exact m2I
namespace Cn
def x5T(rs:List Rec)(k:Nat):Nat×Int:=match x0S rs k (rs.drop k)with
 | some x=>x
 | Option.none=>if baseA rs 78 45 then(0,0)else(rs.length,70)
theorem z1C{rs k}(G:k<rs.length)(h:record rs k (rs.getD k none)≠0):x5T rs k=(k,record rs k (rs.getD k none)):=by
 have e:rs.getD k none=rs[k]:=(by grind);rw[e]at h ⊢;unfold x5T;rw[List.drop_eq_getElem_cons G,x0S,if_neg h]
theorem y7k{rs k}(G:k<rs.length)(h:record rs k (rs.getD k none)=0):x5T rs k=x5T rs (k+1):=by
 have e:rs.getD k none=rs[k]:=(by grind);rw[e]at h;unfold x5T;rw[List.drop_eq_getElem_cons G,x0S,if_pos h]
theorem z1B rs:x5T rs rs.length=if baseA rs 78 45 then(0,0)else(rs.length,70):=by
 unfold x5T;rw[List.drop_length,x0S]
theorem y5B{rs}(h:(check6 rs).2≠0):check rs=check6 rs:=by unfold check;rw[if_pos h]
theorem y8m{rs}(h:(check6 rs).2=0):check rs=x5T rs 0:=by unfold check x5T;rw[if_neg (fun e=>e h)];rfl
end Cn
theorem z1Z l cs os cv ov mr i vt w(C:Glob w)(h:Idx l w cv ov cs os)(s:PAt w mr (Cn.firstP l))(hi:i<l.length)(L:Sk .i32 w vt (l.getD i Cn.none).to) :
  Calls prog 92 #[xV cv ov (.map (some mr)),.int .i64 (i:Int),recV (l.getD i Cn.none) vt] w (IntB w (Cn.record l i (l.getD i Cn.none))):=by
 obtain⟨S,N⟩:=Cn.x1G h.ok;have z:l.getD i Cn.none∈l:=n7C;have u:=N _ z;have T:=Cn.z4g (l:=l) (i:=i) hi;generalize l.getD i Cn.none=r at *;by_cases G:r.kind=6\/r.kind=7\/r.kind=8
 ·have j:r.kind≠15:=f6J;obtain⟨g,k,m⟩:=Cn.x0p u j;have P:Rune r.lo:=(by unfold Rune;exact f6J);by_cases y:r.lo<128
  ·rw[Cn.y6N u G y];obtain⟨p,D,rfl,_,_⟩:=h.rc.shape;obtain⟨Z,B,rfl,_,_⟩:=h.ro.shape;obtain⟨d,J,rfl,_,_⟩:=L.shape;exact z4X _ _ _ _ _ _ _ _ _ _ _ r.kind r.lo r.hi r.n r.to r.name r.other r.wt w G y
  ·obtain⟨W,lo,K,E,I,c,M,X⟩:=r;rcases G with R | k7 | k8
   ·simp only at R;subst R;have:=q1J l cs os cv ov mr i lo K E I c M X vt w h L y;by_cases U:touches ⟨6,lo,K,E,I,c,M,X⟩=true
    ·rw[if_pos U]at this;rw[Cn.x2s (.inl rfl) y (by rw[U];rfl)];exact this
    ·rw[if_neg U]at this;rw[Cn.x3I (.inl rfl) y G5X,if_pos rfl];exact this
   ·simp only at k7;subst k7;obtain⟨⟨f,A⟩,Q⟩:=Cn.x0v (Cn.x0C u rfl).2.2;simp only at f A Q
    have F:Rune (I.getD 0 0):=by
     have:=o0d (Q (I.getD 0 0) (x6i f6J));unfold Rune;omega
    have b:Rune (I.getD 1 0):=by
     have:=o0d (Q (I.getD 1 0) (x6i f6J));unfold Rune;omega
    have:=q1K l cs os cv ov mr i lo K E I c M X vt w C h L y P f6J F b s;by_cases U:(touches ⟨7,lo,K,E,I,c,M,X⟩||makes (I.getD 0 0) (I.getD 1 0))=true
    ·rw[if_pos U]at this;rw[Cn.x2s (.inr (.inl rfl)) y G5X];exact this
    ·rw[if_neg U]at this;rw[Cn.x3I (.inr (.inl rfl)) y G5X,if_neg (e8N:¬(7:Int)=6)];by_cases a:Cn.wfull l lo≠0
     ·rw[if_pos a]at this;rw[if_pos a];exact this
     ·rw[if_neg a]at this;rw[if_neg a,T rfl];by_cases Y:Cn.bad7 l i ⟨7,lo,K,E,I,c,M,X⟩=true
      ·have H:=Y;unfold Cn.bad7 at H;rw[if_pos H]at this;rw[if_pos ⟨rfl,by rw[Y];rfl⟩];exact this
      ·have H:=Y;unfold Cn.bad7 at H;rw[if_neg H]at this;rw[if_neg (fun q=>Y (by simpa using q.2))];exact this
   ·simp only at k8;subst k8;have:=q1L l cs os cv ov mr i lo K E I c M X vt w C h L y P;by_cases U:touches ⟨8,lo,K,E,I,c,M,X⟩=true
    ·rw[if_pos U]at this;rw[Cn.x2s (.inr (.inr rfl)) y (by rw[U];rfl)];exact this
    ·rw[if_neg U]at this
     have e:Cn.record l i ⟨8,lo,K,E,I,c,M,X⟩=Cn.wfull l lo:=by
      rw[Cn.x3I (.inr (.inr rfl)) y G5X,if_neg (e8N:¬(8:Int)=6)];by_cases a:Cn.wfull l lo≠0
      ·rw[if_pos a]
      ·rw[if_neg a,if_neg (fun q=>absurd q.1 (e8N:¬(8:Int)=7))];exact(Decidable.not_not.1 a).symm
     rw[e];exact this
 ·rw[Cn.y3p f6J f6J f6J];obtain⟨p,D,rfl,_,_⟩:=h.rc.shape;obtain⟨Z,B,rfl,_,_⟩:=h.ro.shape;obtain⟨d,J,rfl,_,_⟩:=L.shape;exact z1Y _ _ _ _ _ _ _ _ _ _ _ r.kind r.lo r.hi r.n r.to r.name r.other r.wt w f6J f6J f6J
theorem z9s:z8Y:=by
 intro v l w hg N;have K6:=O (y8n v l w hg N);have g:Hid ((Cn.check6 l).2≠0->Cn.check l=Cn.check6 l):=Cn.y5B;have aA:Hid ((Cn.check6 l).2=0->Cn.check l=Cn.x5T l 0/\∀W,Bw w W->Calls prog 91 #[v] W (y7x W l)):=fun h=>⟨Cn.y8m h,fun W P=>y1v v l W (N.below P) h⟩;have HV:Hid (∀W,Bw w W->Rcs W v l):=fun W P=>N.below P;have HG:Hid (∀W,Bw w W->Glob W):=fun W P=>hg.on P;have KB:Hid (∀W,Bw w W->Calls prog 93 #[v] W (x0g W (Cn.baseA l 78 45))):=fun W P=>y2T v l W (hg.on P) (N.below P);have z:=O (Cn.z1B l);have aH:=O (fun i hi=>N.fit (i:=i) hi);generalize Cn.check l=res,Cn.check6 l=q at *;obtain⟨q1,s⟩:=q;have aI:=N.1;obtain⟨ao,aJ,rfl,_,_⟩:=N.shape;go_enter func49,ntmps49;go_wp2_with fail;refine c0m K6 fun Q F=>?_;by_cases hq:s=0
 ·obtain⟨S,c⟩:=V aA hq;obtain rfl:s=0:=hq;have KI:=O (c Q F);have K:=O S;go_wp2_with fail;refine(V KI).mono ?_;rintro e T ⟨cv,ov,L,os,rfl,hI,hP,aF⟩;have u:=bthen F aF;obtain⟨p,D,rfl,_,_⟩:=hI.rc.shape;obtain⟨Z,B,rfl,_,_⟩:=hI.ro.shape;unfold xV;have f:Bw T (T.alloc (.cells #[.slice p L.length D,.slice Z os.length B,.map (some (Q.heap.size+1))] 168)):=(b0r).alloc (l0r _) _
  have aG:(T.alloc (.cells #[.slice p L.length D,.slice Z os.length B,.map (some (Q.heap.size+1))] 168)).heap[T.heap.size]?=some (.cells #[.slice p L.length D,.slice Z os.length B,.map (some (Q.heap.size+1))] 168 (0,0)):=by
   show(T.heap.push _)[T.heap.size]?=_;simp
  have A:(T.alloc (.cells #[.slice p L.length D,.slice Z os.length B,.map (some (Q.heap.size+1))] 168)).heap.size=T.heap.size+1:=M7O;have aq:Hid (∀W,Below (T.heap.size+1) (T.alloc (.cells #[.slice p L.length D,.slice Z os.length B,.map (some (Q.heap.size+1))] 168)) W->Bw T W):=fun W P=>f.trans (P.mono f6J)
  have aC:Hid (∀W,Below (T.heap.size+1) (T.alloc (.cells #[.slice p L.length D,.slice Z os.length B,.map (some (Q.heap.size+1))] 168)) W->W.cell? ⟨T.heap.size,0,none⟩=some (.slice p L.length D)/\W.cell? ⟨T.heap.size,1,none⟩=some (.slice Z os.length B)/\W.cell? ⟨T.heap.size,2,none⟩=some (.map (some (Q.heap.size+1)))):=fun W P=>by
   have hx:=(P.block (T.heap.size) f6J).trans aG;exact⟨cell_of (j:=0) hx T7c,cell_of (j:=1) hx f2P,cell_of (j:=2) hx U4B⟩
  have aB:Hid (∀i X W,i<l.length->Bw T W->Sk .i32 W X (l.getD i Cn.none).to->Calls prog 92 #[.agg #[.slice p L.length D,.slice Z os.length B,.map (some (Q.heap.size+1))],.int .i64 (i:Int),recV (l.getD i Cn.none) X] W (IntB W (Cn.record l i (l.getD i Cn.none)))):=fun i X W hi P hs=>by
   obtain⟨es,cl,p1,p2⟩:=hP;exact z1Z l L os _ _ _ i X W (V HG W (bthen u P)) (hI.below P) ⟨es,cl,by rw[P.block _ (x0D p1)];exact p1,p2⟩ hi hs
  have ag:=O u;go_wp2;go_loopw[7,8,9,23] (fun _ _ _ iv wr=>∃k:Nat,iv=.int .i64 k/\k<=l.length/\Hid (res=Cn.x5T l k)/\Hid (Below (T.heap.size+1) (T.alloc (.cells #[.slice p L.length D,.slice Z os.length B,.map (some (Q.heap.size+1))] 168)) wr)) (fun _ _ _ iv _=>l.length-(intOf iv).toNat)
  case atStart=>exact⟨0,rfl,f6J,K,b0r⟩
  case round =>
   obtain⟨k,rfl,hk,K,Y⟩:=hrel;have ab:=V aq wr (V Y);have C:Bw w wr:=bthen (V ag) ab;by_cases E:k<l.length
   ·obtain⟨b,aN,t,ev,_,_,G⟩:=(V HV wr C).place f6J;simp only[Value.slice.injEq]at ev;obtain⟨rfl,_,rfl⟩:=ev;obtain⟨x0,x1,x2,x3,⟨X,x4,x⟩,x5,x6,x7⟩:=G k E;obtain⟨d,J,rfl,_,_⟩:=x.shape;have af:∀o,Bw wr (wr.alloc o):=fun o=>(b0r).alloc (l0r _) _;have ae:∀o,Below (T.heap.size+1) (T.alloc (.cells #[.slice p L.length D,.slice Z os.length B,.map (some (Q.heap.size+1))] 168)) (wr.alloc o):=fun o=>(V Y).trans ((af o).mono (by have:=(V Y).size;rw[A]at this;exact f6J));have KK:=O (V aB k _ (wr.alloc (.cells #[.int .i64 (l.getD k Cn.none).kind,.int .i64 (l.getD k Cn.none).lo,.int .i64 (l.getD k Cn.none).hi,.int .i64 (l.getD k Cn.none).n,.slice d (l.getD k Cn.none).to.length J,.string (l.getD k Cn.none).name,.string (l.getD k Cn.none).other,.float .f64 (l.getD k Cn.none).wt] 60)) E (bthen ab (af _)) (x.below (af _)));obtain⟨y0,y1,y2⟩:=V aC _ (ae (.cells #[.int .i64 (l.getD k Cn.none).kind,.int .i64 (l.getD k Cn.none).lo,.int .i64 (l.getD k Cn.none).hi,.int .i64 (l.getD k Cn.none).n,.slice d (l.getD k Cn.none).to.length J,.string (l.getD k Cn.none).name,.string (l.getD k Cn.none).other,.float .f64 (l.getD k Cn.none).wt] 60));have ai:=O (ae (.cells #[.int .i64 (l.getD k Cn.none).kind,.int .i64 (l.getD k Cn.none).lo,.int .i64 (l.getD k Cn.none).hi,.int .i64 (l.getD k Cn.none).n,.slice d (l.getD k Cn.none).to.length J,.string (l.getD k Cn.none).name,.string (l.getD k Cn.none).other,.float .f64 (l.getD k Cn.none).wt] 60));have am:Hid (Cn.record l k (l.getD k Cn.none)≠0->res=(k,Cn.record l k (l.getD k Cn.none))):=fun h=>(V K).trans (Cn.z1C E h);have az:Hid (Cn.record l k (l.getD k Cn.none)=0->res=Cn.x5T l (k+1)):=fun h=>(V K).trans (Cn.y7k E h);have H:=(V Y).size;rw[A]at H;unfold recV at KK;generalize Cn.record l k (l.getD k Cn.none)=y at *;generalize l.getD k Cn.none=r at *;have aK:∀W a m,(store a (.float .f64 r.wt) m).run prog W=stored prog W a (.float .f64 r.wt) m:=fun W a m=>run_store prog W a _ m rfl;go_wp2_with fail;refine c0m KK fun R M=>?_;have aj:Hid (Below (T.heap.size+1) (T.alloc (.cells #[.slice p L.length D,.slice Z os.length B,.map (some (Q.heap.size+1))] 168)) R):=(V ai).trans (M.mono (by have:=(V ai).size;rw[A]at this;exact this));have ay:Hid (Bw w R):=bthen (V ag) (V aq R (V aj));by_cases hy:y=0
    ·have HN:=O (V az hy);obtain rfl:y=0:=hy;go_wp2
     go_roundw
     case rel=>exact⟨k+1,g2B,f6J,HN,aj⟩
     case measure=>exact g7T
    ·obtain rfl:=V am hy;have aM:(y != 0)=true:=(by simp[hy]);have U:x3O w (k,y) (.returned (.tuple #[.int .i64 (k:Int),.int .i64 y])) R:=⟨rfl,V ay⟩;exact v6t
   ·obtain rfl:k=l.length:=f6J;have aD:=O (V KB wr C);have S:=(V K).trans (V z);have ar:=O S;have I:=O C;generalize Cn.baseA l 78 45=bb at *;go_wp2_with fail;refine c0m aD fun R M=>?_;have aw:=bthen (V I) M;cases bb
    ·obtain rfl:res=(l.length,70):=V ar;have U:x3O w (l.length,70) (.returned (.tuple #[.int .i64 (l.length:Int),.int .i64 70])) R:=⟨rfl,aw⟩;exact v6t
    ·obtain rfl:res=(0,0):=V ar;have U:x3O w (0,0) (.returned (.tuple #[.int .i64 0,.int .i64 0])) R:=⟨rfl,aw⟩;exact v6t
 ·obtain rfl:=V g hq;have aL:(s != 0)=true:=(by simp[hq]);have U:x3O w (q1,s) (.returned (.tuple #[.int .i64 (q1:Int),.int .i64 s])) Q:=⟨rfl,F⟩;exact v6t
