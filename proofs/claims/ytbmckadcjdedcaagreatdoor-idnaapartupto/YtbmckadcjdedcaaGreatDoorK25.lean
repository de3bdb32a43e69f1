/- Lemmas. -/
import Derived.Test.YtbmckadcjdedcaaGreatDoorK13
set_option maxHeartbeats 16000000
set_option maxRecDepth 20000
namespace Go.Proofs.YtbmckadcjdedcaaGreatDoor
open Go.Proofs.Tryz
open Go.RowKit
section
variable{p:Prop}
theorem g6V(h:p:=by(intro w hSw;obtain⟨H,N,B,C,y,g,F,n,o,a,d,f,k,J⟩:=(congrFun I _).mpr hSw;go_simp)):p:=h
theorem V6t(h:p:=by refine tk9 15 (.bool true) ?_;refine tk9 16 (.bool true) ?_;refine wpAnyH_done f4z ?_ _;have Y:=V b q 71 s;clear c P b KT r KW KM KP m t T s hHeld;exact n0O):p:=h
theorem f6X(h:p:=by clear c P b K3 K4 aj aq X ag hHeld HR t KP m v af s;exact n0O):p:=h
theorem t7M(h:p:=by simp[IntKind.wrap,IntKind.bits,IntKind.signed];omega):p:=h
end
theorem z9T l cs os cv ov(mr i:Nat) lo hi nn tq nm ot wt vt w(hg:Glob w)(h:Idx l w cv ov cs os)(hs:Sk .i32 w vt tq)(aR:¬lo<128)(ay:Rune lo)(A:tq.length=2)(az:Rune (tq.getD 0 0))(x:Rune (tq.getD 1 0))(hp:PAt w mr (Cn.firstP l)) :
  Calls prog 84 #[xV cv ov (.map (some mr)),.int .i64 (i:Int),recV (⟨7,lo,hi,nn,tq,nm,ot,wt⟩:Rec) vt] w (IntB w (if(touches (⟨7,lo,hi,nn,tq,nm,ot,wt⟩:Rec)||makes (tq.getD 0 0) (tq.getD 1 0))=true then 71 else if Cn.wfull l lo≠0 then Cn.wfull l lo else if(decide ((Cn.firstP l (tq.getD 0 0) (tq.getD 1 0)).getD 0<(i:Int))||Cn.wpair l lo (tq.getD 0 0) (tq.getD 1 0))=true then 74 else 0)):=by
 obtain⟨p,Z,rfl,_,_⟩:=h.rc.shape;obtain⟨M,D,rfl,_,_⟩:=h.ro.shape;obtain⟨tb,G,L,rfl,_,_,ae⟩:=hs.place f6J;have ai:=ae 0 f6J;have aJ:=ae 1 f6J;rw[Nat.add_zero]at ai;have aA:Hid (Sk .i32 w (.slice (some ⟨tb,G,none⟩) 2 L) tq):=A ▸ hs;obtain⟨Q,hQ⟩:∃Q,((w.alloc (.cells #[.slice p cs.length Z,.slice M os.length D,.map (some mr)] 125)).alloc (.cells #[.int .i64 7,.int .i64 lo,.int .i64 hi,.int .i64 nn,.slice (some ⟨tb,G,none⟩) 2 L,.string nm,.string ot,.float .f64 wt] 67))=Q:=⟨_,rfl⟩;have aB:Bw w Q:=(by rw[<- hQ];exact((b0r).alloc (l0r _) _).alloc (by simp) _);have aT:Q.heap.size=w.heap.size+2:=by rw[<- hQ];simp
 have aI:Q.heap[w.heap.size]?=some (.cells #[.slice p cs.length Z,.slice M os.length D,.map (some mr)] 125 (0,0)):=by
  rw[<- hQ];exact n9Y
 have aG:Q.heap[w.heap.size+1]?=some (.cells #[.int .i64 7,.int .i64 lo,.int .i64 hi,.int .i64 nn,.slice (some ⟨tb,G,none⟩) 2 L,.string nm,.string ot,.float .f64 wt] 67 (0,0)):=by
  rw[<- hQ];show((w.heap.push _).push _)[w.heap.size+1]?=_;rw[Array.getElem?_push];simp
 have ab:Hid (∀W:World,Bw Q W->Bw w W):=fun W U=>aB.trans (U.mono f6J);obtain⟨SP,I⟩:∃SP:World->Prop,(fun W=>(W.cell? ⟨w.heap.size+1,0,none⟩=some (.int .i64 7)/\W.cell? ⟨w.heap.size+1,1,none⟩=some (.int .i64 lo)/\W.cell? ⟨w.heap.size+1,2,none⟩=some (.int .i64 hi)/\W.cell? ⟨w.heap.size+1,3,none⟩=some (.int .i64 nn)/\W.cell? ⟨w.heap.size+1,4,none⟩=some (.slice (some ⟨tb,G,none⟩) 2 L)/\W.cell? ⟨w.heap.size+1,5,none⟩=some (.string nm)/\W.cell? ⟨w.heap.size+1,6,none⟩=some (.string ot)/\W.cell? ⟨w.heap.size+1,7,none⟩=some (.float .f64 wt)/\W.cell? ⟨w.heap.size,0,none⟩=some (.slice p cs.length Z)/\W.cell? ⟨w.heap.size,1,none⟩=some (.slice M os.length D)/\W.cell? ⟨w.heap.size,2,none⟩=some (.map (some mr))/\W.cell? ⟨tb,G,none⟩=some (.int .i32 (tq.getD 0 0))/\W.cell? ⟨tb,G+1,none⟩=some (.int .i32 (tq.getD 1 0))/\Hid (Bw Q W)))=SP:=⟨_,rfl⟩
 have c:Hid (∀W:World,Bw Q W->SP W):=fun W U=>by
  rw[<- I];have hx:=(U.block (w.heap.size) f6J).trans aI;have u:=(U.block (w.heap.size+1) f6J).trans aG;exact⟨cell_of (j:=0) u s5q,cell_of (j:=1) u G0Z,cell_of (j:=2) u V3Y,cell_of (j:=3) u e8d,cell_of (j:=4) u e2U,cell_of (j:=5) u i3Z,cell_of (j:=6) u F4N,cell_of (j:=7) u U3C,cell_of (j:=0) hx T7i,cell_of (j:=1) hx (by show 1<3;exact f6J),cell_of (j:=2) hx U4w,by rw[(V ab W U).cell (x0a ai)];exact ai,by rw[(V ab W U).cell (x0a ai)];exact aJ,U⟩
 have KT:Hid (∀W:World,Calls prog 129 #[.agg #[.int .i64 7,.int .i64 lo,.int .i64 hi,.int .i64 nn,.slice (some ⟨tb,G,none⟩) 2 L,.string nm,.string ot,.float .f64 wt]] W (x0c W (touches (⟨7,lo,hi,nn,tq,nm,ot,wt⟩:Rec)))):=fun W=>x3V (⟨7,lo,hi,nn,tq,nm,ot,wt⟩:Rec) _ _ _ W;have KW:Hid (∀W:World,Bw Q W->Calls prog 131 #[.agg #[.slice p cs.length Z,.slice M os.length D,.map (some mr)],.int .i32 lo] W (IntB W (Cn.wfull l lo))):=fun W U=>y1t l cs os _ _ mr lo W (hg.on (V ab W U)) (h.below (V ab W U)) ay
 have aS:IntKind.i32.wrap lo=lo:=by
  unfold Rune at ay;exact t7M
 have KM:Hid (∀W:World,Calls prog 130 #[.int .i32 (tq.getD 0 0),.int .i32 (tq.getD 1 0)] W (fun e w'=>e=.returned (.bool (makes (tq.getD 0 0) (tq.getD 1 0)))/\w'=W)):=fun W=>y8X _ _ W;have m:Hid (∀W:World,Bw Q W->Calls prog 126 #[.agg #[.int .i64 7,.int .i64 lo,.int .i64 hi,.int .i64 nn,.slice (some ⟨tb,G,none⟩) 2 L,.string nm,.string ot,.float .f64 wt]] W (fun e w'=>e=.returned (pk2 (tq.getD 0 0) (tq.getD 1 0))/\Bw W w')):=fun W U=>x8k (⟨7,lo,hi,nn,tq,nm,ot,wt⟩:Rec) _ W ((V aA).below (V ab W U)) A;have KP:Hid (∀W:World,Bw Q W->Calls prog 132 #[.agg #[.slice p cs.length Z,.slice M os.length D,.map (some mr)],.int .i32 lo,.int .i32 (tq.getD 0 0),.int .i32 (tq.getD 1 0)] W (x0c W (Cn.wpair l lo (tq.getD 0 0) (tq.getD 1 0)))):=fun W U=>z0O l cs os _ _ mr lo _ _ W (hg.on (V ab W U)) (h.below (V ab W U)) ay az x
 have t:Hid (∀W:World,Bw Q W->(Instr.lookup 123 (.map (some mr)) (pk2 (tq.getD 0 0) (tq.getD 1 0)) false).run prog W=.ok (.int .i64 ((Cn.firstP l (tq.getD 0 0) (tq.getD 1 0)).getD 0)) W):=fun W U=>by
  obtain⟨es,cl,q1,q2⟩:=hp;exact(look_ok ⟨es,cl,by rw[(V ab W U).block _ (x0B q1)];exact q1,q2⟩ az x).2
 have am:Bw Q Q.drew:=x0k ⟨1,rfl⟩;have P:=O (V c _ am);have b:Hid (∀W z,Bw Q W->IntB w z (.returned (.int .i64 z)) W):=fun W z U=>⟨rfl,V ab W U⟩;have r:=O (V KT Q.drew);rw[A];clear A hs hp az x ae ai aJ aA;generalize Cn.wpair l lo (tq.getD 0 0) (tq.getD 1 0)=wp,(Cn.firstP l (tq.getD 0 0) (tq.getD 1 0)).getD 0=fp,makes (tq.getD 0 0) (tq.getD 1 0)=mk at *;generalize tq.getD 0 0=pa,tq.getD 1 0=pb at *;unfold pk2 at *;generalize touches (⟨7,lo,hi,nn,tq,nm,ot,wt⟩:Rec)=tc,Cn.wfull l lo=wf at *;subst hQ;unfold xV recV;clear aI aG aB h hg;cases tc
 ·rw[Bool.false_or];cases mk
  ·rw[if_neg e8P];obtain⟨R,hR⟩:∃R,(if wf≠0 then wf else if(decide (fp<(i:Int))||wp)=true then 74 else 0)=R:=⟨_,rfl⟩;rw[hR];have HR:=O hR;clear hR;go_enter func84,ntmps84;go_wp2;refine wp_region_held_drew (S:=fun w'=>SP w') f4z (V P) (fun hHeld=>?_);refine tk9 0 (.agg #[.int .i64 7,.int .i64 lo,.int .i64 hi,.int .i64 nn,.slice (some ⟨tb,G,none⟩) 2 L,.string nm,.string ot,.float .f64 wt]) ?_ (hy:=g6V);refine rd9 1 fun K hK=>?_;go_simp;refine c0m r fun q E=>?_;have s:=x0b am E;have T:=O (V c q s);refine hK.out _ _ ?_ (fun hHeld=>?_)
   ·exact V T
   clear hK K
   try simp only[Act.put,sa9,sb9,sc9]
   refine tk9 2 (.bool false) ?_;refine tk9 3 (.bool true) ?_;refine tk9 4 (.bool true) ?_;refine tk9 5 (.pointer (some ⟨w.heap.size+1,4,none⟩)) ?_ (hy:=g6V);refine tk9 6 (.slice (some ⟨tb,G,none⟩) 2 L) ?_ (hy:=g6V);refine tk9 7 (.pointer (some ⟨tb,G,none⟩)) ?_ (hy:=g6V);refine tk9 8 (.int .i32 pa) ?_ (hy:=g6V);refine tk9 9 (.pointer (some ⟨w.heap.size+1,4,none⟩)) ?_ (hy:=g6V);refine tk9 10 (.slice (some ⟨tb,G,none⟩) 2 L) ?_ (hy:=g6V);refine tk9 11 (.pointer (some ⟨tb,G+1,none⟩)) ?_ (hy:=g6V);refine tk9 12 (.int .i32 pb) ?_ (hy:=g6V);refine rd9 13 fun K hK=>?_;go_simp;refine(V KM _).mono ?_;rintro e ar ⟨rfl,aH⟩;subst ar;refine hK.out _ _ ?_ (fun hHeld=>?_)
   ·exact V T
   clear hK K
   try simp only[Act.put,sa9,sb9,sc9]
   refine tk9 14 (.bool false) ?_;refine tk9 15 (.bool false) ?_;refine tk9 16 (.bool false) ?_;refine wpAnyH_done f4z ?_ _;obtain⟨q0,q1,q2,q3,q4,q5,q6,q7,q8,q9,aM,aN,aO,aP⟩:=(congrFun I _).mpr (V T);have K2:=O (V KW q s);clear T P KT r KW KM hHeld;go_wp2_with fail;refine c0m K2 fun W2 aC=>?_;have v:=x0b s aC;clear K2 aC q0 q1 q2 q3 q4 q5 q6 q7 q8 q9 aM aN aO aP;by_cases hz:wf=0
   ·subst hz;have af:Below _ _ W2.drew:=x0b v (x0k ⟨1,rfl⟩);have P:=O (V c _ af);have K3:=O (V m _ af);go_wp2;refine wp_region_held_drew (S:=fun w'=>SP w') f4z (V P) (fun hHeld=>?_);refine tk9 0 (.bool true) ?_;refine tk9 1 (.bool true) ?_;refine tk9 2 (.pointer (some ⟨w.heap.size,2,none⟩)) ?_ (hy:=g6V);refine tk9 3 (.map (some mr)) ?_ (hy:=g6V);refine tk9 4 (.agg #[.int .i64 7,.int .i64 lo,.int .i64 hi,.int .i64 nn,.slice (some ⟨tb,G,none⟩) 2 L,.string nm,.string ot,.float .f64 wt]) ?_ (hy:=g6V);refine tk9 7 (.int .i64 (i:Int)) ?_;refine rd9 5 fun K hK=>?_;go_simp;refine c0m K3 fun W3 aK=>?_;have X:=x0b af aK;have aj:=O (V c W3 X);refine hK.out _ _ ?_ (fun hHeld=>?_)
    ·exact V aj
    clear hK K
    try simp only[Act.put,sa9,sb9,sc9]
    refine tk9 6 (.int .i64 fp) ?_ (hy:=by(intro w hSw;obtain⟨H,N,B,C,y,g,F,n,o,a,d,f,k,J⟩:=(congrFun I _).mpr hSw;have aQ:=V t _ (V J);go_simp));refine tk9 8 (.bool (decide (fp<(i:Int)))) ?_;refine tk9 9 (.bool (decide (fp<(i:Int)))) ?_;by_cases aF:fp<(i:Int)
    ·have aD:decide (fp<(i:Int))=true:=d0t aF
     obtain rfl:R=74:=by
      rw[<- V HR,aD];simp
     rw[aD];refine tn9 10 ?_;refine tn9 11 ?_;refine tn9 12 ?_;refine tn9 13 ?_;refine tn9 14 ?_;refine tn9 15 ?_;refine tn9 16 ?_;refine tn9 17 ?_;refine tn9 18 ?_;refine tn9 19 ?_;refine tn9 20 ?_;refine tn9 21 ?_;refine tn9 22 ?_;refine tk9 23 (.bool true) ?_;refine tk9 24 (.bool true) ?_;refine wpAnyH_done f4z ?_ _;have Y:=V b W3 74 X;clear c P b K3 aj X hHeld HR t KP m v af s;exact n0O
    ·have aw:decide (fp<(i:Int))=false:=d0f aF;rw[aw];have K4:=O (V KP W3 X);refine tk9 10 (.agg #[.slice p cs.length Z,.slice M os.length D,.map (some mr)]) ?_ (hy:=g6V);refine tk9 11 (.pointer (some ⟨w.heap.size+1,1,none⟩)) ?_ (hy:=g6V);refine tk9 12 (.int .i64 lo) ?_ (hy:=g6V);refine tk9 13 (.int .i32 lo) ?_ (hy:=g6V);refine tk9 14 (.pointer (some ⟨w.heap.size+1,4,none⟩)) ?_ (hy:=g6V);refine tk9 15 (.slice (some ⟨tb,G,none⟩) 2 L) ?_ (hy:=g6V);refine tk9 16 (.pointer (some ⟨tb,G,none⟩)) ?_ (hy:=g6V);refine tk9 17 (.int .i32 pa) ?_ (hy:=g6V);refine tk9 18 (.pointer (some ⟨w.heap.size+1,4,none⟩)) ?_ (hy:=g6V);refine tk9 19 (.slice (some ⟨tb,G,none⟩) 2 L) ?_ (hy:=g6V);refine tk9 20 (.pointer (some ⟨tb,G+1,none⟩)) ?_ (hy:=g6V);refine tk9 21 (.int .i32 pb) ?_ (hy:=g6V);refine rd9 22 fun K hK=>?_;go_simp;refine c0m K4 fun W4 aL=>?_;have ag:=x0b X aL;have aq:=O (V c W4 ag);refine hK.out _ _ ?_ (fun hHeld=>?_)
     ·exact V aq
     clear hK K
     try simp only[Act.put,sa9,sb9,sc9]
     refine tk9 23 (.bool wp) ?_;refine tk9 24 (.bool wp) ?_;refine wpAnyH_done f4z ?_ _;cases wp
     ·obtain rfl:R=0:=by
       rw[<- V HR,aw];simp
      have Y:=V b W4 0 ag;exact f6X
     ·obtain rfl:R=74:=by
       rw[<- V HR,aw];simp
      have Y:=V b W4 74 ag;exact f6X
   ·have aU:(wf != 0)=true:=(by simp[hz]);obtain rfl:R=wf:=(by rw[<- V HR,if_pos hz]);have Y:=V b W2 R v;clear hz;clear c b v HR t KP m s;exact n0O
  ·rw[if_pos rfl];go_enter func84,ntmps84;go_wp2;refine wp_region_held_drew (S:=fun w'=>SP w') f4z (V P) (fun hHeld=>?_);refine tk9 0 (.agg #[.int .i64 7,.int .i64 lo,.int .i64 hi,.int .i64 nn,.slice (some ⟨tb,G,none⟩) 2 L,.string nm,.string ot,.float .f64 wt]) ?_ (hy:=g6V);refine rd9 1 fun K hK=>?_;go_simp;refine c0m r fun q E=>?_;have s:=x0b am E;have T:=O (V c q s);refine hK.out _ _ ?_ (fun hHeld=>?_)
   ·exact V T
   clear hK K
   try simp only[Act.put,sa9,sb9,sc9]
   refine tk9 2 (.bool false) ?_;refine tk9 3 (.bool true) ?_;refine tk9 4 (.bool true) ?_;refine tk9 5 (.pointer (some ⟨w.heap.size+1,4,none⟩)) ?_ (hy:=g6V);refine tk9 6 (.slice (some ⟨tb,G,none⟩) 2 L) ?_ (hy:=g6V);refine tk9 7 (.pointer (some ⟨tb,G,none⟩)) ?_ (hy:=g6V);refine tk9 8 (.int .i32 pa) ?_ (hy:=g6V);refine tk9 9 (.pointer (some ⟨w.heap.size+1,4,none⟩)) ?_ (hy:=g6V);refine tk9 10 (.slice (some ⟨tb,G,none⟩) 2 L) ?_ (hy:=g6V);refine tk9 11 (.pointer (some ⟨tb,G+1,none⟩)) ?_ (hy:=g6V);refine tk9 12 (.int .i32 pb) ?_ (hy:=g6V);refine rd9 13 fun K hK=>?_;go_simp;refine(V KM _).mono ?_;rintro e ar ⟨rfl,aH⟩;subst ar;refine hK.out _ _ ?_ (fun hHeld=>?_)
   ·exact V T
   clear hK K
   try simp only[Act.put,sa9,sb9,sc9]
   refine tk9 14 (.bool true) ?_;exact V6t
 ·rw[Bool.true_or,if_pos rfl];go_enter func84,ntmps84;go_wp2;refine wp_region_held_drew (S:=fun w'=>SP w') f4z (V P) (fun hHeld=>?_);refine tk9 0 (.agg #[.int .i64 7,.int .i64 lo,.int .i64 hi,.int .i64 nn,.slice (some ⟨tb,G,none⟩) 2 L,.string nm,.string ot,.float .f64 wt]) ?_ (hy:=g6V);refine rd9 1 fun K hK=>?_;go_simp;refine c0m r fun q E=>?_;have s:=x0b am E;have T:=O (V c q s);refine hK.out _ _ ?_ (fun hHeld=>?_)
  ·exact V T
  clear hK K
  try simp only[Act.put,sa9,sb9,sc9]
  refine tk9 2 (.bool true) ?_;refine tn9 3 ?_;refine tn9 4 ?_;refine tn9 5 ?_;refine tn9 6 ?_;refine tn9 7 ?_;refine tn9 8 ?_;refine tn9 9 ?_;refine tn9 10 ?_;refine tn9 11 ?_;refine tn9 12 ?_;refine tn9 13 ?_;refine tn9 14 ?_;exact V6t
