import Derived.Test.YtbmckadcjdedcaaGreatDoorF13
set_option maxHeartbeats 16000000
set_option maxRecDepth 20000
namespace Go.Proofs.YtbmckadcjdedcaaGreatDoor
open Go.Proofs.Tryz
open Go.RowKit
section
variable{p:Prop}
theorem g2d(h:p:=by(intro w hSw;obtain⟨H,N,s,C,s4,B,a,X,o,q,d,k,U,J⟩:=(congrFun Y _).mpr hSw;go_simp)):p:=h
theorem v7c(h:p:=by refine tk9 15 (.bool true) ?_;refine tk9 16 (.bool true) ?_;refine wpAnyH_done f4z ?_ _;have T:=V b f 71 g;clear c ab b KT r KW KM KP m E I g hHeld;exact U7J):p:=h
theorem M8t(h:p:=by clear c ab b K3 K4 aj F ae af hHeld HR E KP m v n g;exact U7J):p:=h
theorem t7M(h:p:=by simp[IntKind.wrap,IntKind.bits,IntKind.signed];omega):p:=h
end
theorem z9T l cs os cv ov(mr i:Nat) lo hi nn tq nm ot wt vt w(hg:Glob w)(h:Idx l w cv ov cs os)(hs:Sk .i32 w vt tq)(aQ:¬lo<128)(aw:Rune lo)(A:tq.length=2)(ay:Rune (tq.getD 0 0))(x:Rune (tq.getD 1 0))(hp:PAt w mr (Cn.firstP l)) :
  Calls prog 84 #[xV cv ov (.map (some mr)),.int .i64 (i:Int),recV (⟨7,lo,hi,nn,tq,nm,ot,wt⟩:Rec) vt] w (IntB w (if(touches (⟨7,lo,hi,nn,tq,nm,ot,wt⟩:Rec)||makes (tq.getD 0 0) (tq.getD 1 0))=true then 71 else if Cn.wfull l lo≠0 then Cn.wfull l lo else if(decide ((Cn.firstP l (tq.getD 0 0) (tq.getD 1 0)).getD 0<(i:Int))||Cn.wpair l lo (tq.getD 0 0) (tq.getD 1 0))=true then 74 else 0)):=by
 obtain⟨P,Z,rfl,_,_⟩:=h.rc.shape;obtain⟨M,D,rfl,_,_⟩:=h.ro.shape;obtain⟨tb,G,L,rfl,_,_,y⟩:=hs.place f6J;have ai:=y 0 f6J;have aI:=y 1 f6J;rw[Nat.add_zero]at ai;have az:Hid (Sk .i32 w (.slice (some ⟨tb,G,none⟩) 2 L) tq):=A ▸ hs;obtain⟨Q,hQ⟩:∃Q,((w.alloc (.cells #[.slice P cs.length Z,.slice M os.length D,.map (some mr)] 125)).alloc (.cells #[.int .i64 7,.int .i64 lo,.int .i64 hi,.int .i64 nn,.slice (some ⟨tb,G,none⟩) 2 L,.string nm,.string ot,.float .f64 wt] 67))=Q:=⟨_,rfl⟩;have aA:Bw w Q:=(by rw[<- hQ];exact((b0r).alloc (l0r _) _).alloc (by simp) _);have aS:Q.heap.size=w.heap.size+2:=by rw[<- hQ];simp
 have aH:Q.heap[w.heap.size]?=some (.cells #[.slice P cs.length Z,.slice M os.length D,.map (some mr)] 125 (0,0)):=by
  rw[<- hQ];exact n9Y
 have aF:Q.heap[w.heap.size+1]?=some (.cells #[.int .i64 7,.int .i64 lo,.int .i64 hi,.int .i64 nn,.slice (some ⟨tb,G,none⟩) 2 L,.string nm,.string ot,.float .f64 wt] 67 (0,0)):=by
  rw[<- hQ];show((w.heap.push _).push _)[w.heap.size+1]?=_;rw[Array.getElem?_push];simp
 have p:Hid (∀W:World,Bw Q W->Bw w W):=fun W t=>aA.trans (t.mono f6J);obtain⟨SP,Y⟩:∃SP:World->Prop,(fun W=>(W.cell? ⟨w.heap.size+1,0,none⟩=some (.int .i64 7)/\W.cell? ⟨w.heap.size+1,1,none⟩=some (.int .i64 lo)/\W.cell? ⟨w.heap.size+1,2,none⟩=some (.int .i64 hi)/\W.cell? ⟨w.heap.size+1,3,none⟩=some (.int .i64 nn)/\W.cell? ⟨w.heap.size+1,4,none⟩=some (.slice (some ⟨tb,G,none⟩) 2 L)/\W.cell? ⟨w.heap.size+1,5,none⟩=some (.string nm)/\W.cell? ⟨w.heap.size+1,6,none⟩=some (.string ot)/\W.cell? ⟨w.heap.size+1,7,none⟩=some (.float .f64 wt)/\W.cell? ⟨w.heap.size,0,none⟩=some (.slice P cs.length Z)/\W.cell? ⟨w.heap.size,1,none⟩=some (.slice M os.length D)/\W.cell? ⟨w.heap.size,2,none⟩=some (.map (some mr))/\W.cell? ⟨tb,G,none⟩=some (.int .i32 (tq.getD 0 0))/\W.cell? ⟨tb,G+1,none⟩=some (.int .i32 (tq.getD 1 0))/\Hid (Bw Q W)))=SP:=⟨_,rfl⟩
 have c:Hid (∀W:World,Bw Q W->SP W):=fun W t=>by
  rw[<- Y];have hx:=(t.block (w.heap.size) f6J).trans aH;have u:=(t.block (w.heap.size+1) f6J).trans aF;exact⟨cell_of (j:=0) u s5q,cell_of (j:=1) u G0Z,cell_of (j:=2) u V3Y,cell_of (j:=3) u e8d,cell_of (j:=4) u e2U,cell_of (j:=5) u i3Y,cell_of (j:=6) u F4N,cell_of (j:=7) u U3M,cell_of (j:=0) hx T7f,cell_of (j:=1) hx (by show 1<3;exact f6J),cell_of (j:=2) hx U4w,by rw[(V p W t).cell (x0a ai)];exact ai,by rw[(V p W t).cell (x0a ai)];exact aI,t⟩
 have KT:Hid (∀W:World,Calls prog 129 #[.agg #[.int .i64 7,.int .i64 lo,.int .i64 hi,.int .i64 nn,.slice (some ⟨tb,G,none⟩) 2 L,.string nm,.string ot,.float .f64 wt]] W (x0c W (touches (⟨7,lo,hi,nn,tq,nm,ot,wt⟩:Rec)))):=fun W=>x3Y (⟨7,lo,hi,nn,tq,nm,ot,wt⟩:Rec) _ _ _ W;have KW:Hid (∀W:World,Bw Q W->Calls prog 131 #[.agg #[.slice P cs.length Z,.slice M os.length D,.map (some mr)],.int .i32 lo] W (IntB W (Cn.wfull l lo))):=fun W t=>y1D l cs os _ _ mr lo W (hg.on (V p W t)) (h.below (V p W t)) aw
 have aR:IntKind.i32.wrap lo=lo:=by
  unfold Rune at aw;exact t7M
 have KM:Hid (∀W:World,Calls prog 130 #[.int .i32 (tq.getD 0 0),.int .i32 (tq.getD 1 0)] W (fun e w'=>e=.returned (.bool (makes (tq.getD 0 0) (tq.getD 1 0)))/\w'=W)):=fun W=>y9d _ _ W;have m:Hid (∀W:World,Bw Q W->Calls prog 126 #[.agg #[.int .i64 7,.int .i64 lo,.int .i64 hi,.int .i64 nn,.slice (some ⟨tb,G,none⟩) 2 L,.string nm,.string ot,.float .f64 wt]] W (fun e w'=>e=.returned (pk2 (tq.getD 0 0) (tq.getD 1 0))/\Bw W w')):=fun W t=>x8n (⟨7,lo,hi,nn,tq,nm,ot,wt⟩:Rec) _ W ((V az).below (V p W t)) A;have KP:Hid (∀W:World,Bw Q W->Calls prog 132 #[.agg #[.slice P cs.length Z,.slice M os.length D,.map (some mr)],.int .i32 lo,.int .i32 (tq.getD 0 0),.int .i32 (tq.getD 1 0)] W (x0c W (Cn.wpair l lo (tq.getD 0 0) (tq.getD 1 0)))):=fun W t=>z0R l cs os _ _ mr lo _ _ W (hg.on (V p W t)) (h.below (V p W t)) aw ay x
 have E:Hid (∀W:World,Bw Q W->(Instr.lookup 123 (.map (some mr)) (pk2 (tq.getD 0 0) (tq.getD 1 0)) false).run prog W=.ok (.int .i64 ((Cn.firstP l (tq.getD 0 0) (tq.getD 1 0)).getD 0)) W):=fun W t=>by
  obtain⟨es,cl,q1,q2⟩:=hp;exact(look_ok ⟨es,cl,by rw[(V p W t).block _ (x0B q1)];exact q1,q2⟩ ay x).2
 have am:Bw Q Q.drew:=x0k ⟨1,rfl⟩;have ab:=O (V c _ am);have b:Hid (∀W z,Bw Q W->IntB w z (.returned (.int .i64 z)) W):=fun W z t=>⟨rfl,V p W t⟩;have r:=O (V KT Q.drew);rw[A];clear A hs hp ay x y ai aI az;generalize Cn.wpair l lo (tq.getD 0 0) (tq.getD 1 0)=wp,(Cn.firstP l (tq.getD 0 0) (tq.getD 1 0)).getD 0=fp,makes (tq.getD 0 0) (tq.getD 1 0)=mk at *;generalize tq.getD 0 0=pa,tq.getD 1 0=pb at *;unfold pk2 at *;generalize touches (⟨7,lo,hi,nn,tq,nm,ot,wt⟩:Rec)=tc,Cn.wfull l lo=wf at *;subst hQ;unfold xV recV;clear aH aF aA h hg;cases tc
 ·rw[Bool.false_or];cases mk
  ·rw[if_neg e8P];obtain⟨R,hR⟩:∃R,(if wf≠0 then wf else if(decide (fp<(i:Int))||wp)=true then 74 else 0)=R:=⟨_,rfl⟩;rw[hR];have HR:=O hR;clear hR;go_enter func84,ntmps84;go_wp2;refine wp_region_held_drew (S:=fun w'=>SP w') f4z (V ab) (fun hHeld=>?_);refine tk9 0 (.agg #[.int .i64 7,.int .i64 lo,.int .i64 hi,.int .i64 nn,.slice (some ⟨tb,G,none⟩) 2 L,.string nm,.string ot,.float .f64 wt]) ?_ (hy:=g2d);refine rd9 1 fun K hK=>?_;go_simp;refine c0m r fun f ag=>?_;have g:=x0b am ag;have I:=O (V c f g);refine hK.out _ _ ?_ (fun hHeld=>?_)
   ·exact V I
   clear hK K
   try simp only[Act.put,sa9,sb9,sc9]
   refine tk9 2 (.bool false) ?_;refine tk9 3 (.bool true) ?_;refine tk9 4 (.bool true) ?_;refine tk9 5 (.pointer (some ⟨w.heap.size+1,4,none⟩)) ?_ (hy:=g2d);refine tk9 6 (.slice (some ⟨tb,G,none⟩) 2 L) ?_ (hy:=g2d);refine tk9 7 (.pointer (some ⟨tb,G,none⟩)) ?_ (hy:=g2d);refine tk9 8 (.int .i32 pa) ?_ (hy:=g2d);refine tk9 9 (.pointer (some ⟨w.heap.size+1,4,none⟩)) ?_ (hy:=g2d);refine tk9 10 (.slice (some ⟨tb,G,none⟩) 2 L) ?_ (hy:=g2d);refine tk9 11 (.pointer (some ⟨tb,G+1,none⟩)) ?_ (hy:=g2d);refine tk9 12 (.int .i32 pb) ?_ (hy:=g2d);refine rd9 13 fun K hK=>?_;go_simp;refine(V KM _).mono ?_;rintro e aq ⟨rfl,aG⟩;subst aq;refine hK.out _ _ ?_ (fun hHeld=>?_)
   ·exact V I
   clear hK K
   try simp only[Act.put,sa9,sb9,sc9]
   refine tk9 14 (.bool false) ?_;refine tk9 15 (.bool false) ?_;refine tk9 16 (.bool false) ?_;refine wpAnyH_done f4z ?_ _;obtain⟨q0,q1,q2,q3,q4,q5,q6,q7,q8,q9,aL,aM,aN,aO⟩:=(congrFun Y _).mpr (V I);have K2:=O (V KW f g);clear I ab KT r KW KM hHeld;go_wp2_with fail;refine c0m K2 fun W2 aB=>?_;have v:=x0b g aB;clear K2 aB q0 q1 q2 q3 q4 q5 q6 q7 q8 q9 aL aM aN aO;by_cases hz:wf=0
   ·subst hz;have n:Below _ _ W2.drew:=x0b v (x0k ⟨1,rfl⟩);have ab:=O (V c _ n);have K3:=O (V m _ n);go_wp2;refine wp_region_held_drew (S:=fun w'=>SP w') f4z (V ab) (fun hHeld=>?_);refine tk9 0 (.bool true) ?_;refine tk9 1 (.bool true) ?_;refine tk9 2 (.pointer (some ⟨w.heap.size,2,none⟩)) ?_ (hy:=g2d);refine tk9 3 (.map (some mr)) ?_ (hy:=g2d);refine tk9 4 (.agg #[.int .i64 7,.int .i64 lo,.int .i64 hi,.int .i64 nn,.slice (some ⟨tb,G,none⟩) 2 L,.string nm,.string ot,.float .f64 wt]) ?_ (hy:=g2d);refine tk9 7 (.int .i64 (i:Int)) ?_;refine rd9 5 fun K hK=>?_;go_simp;refine c0m K3 fun W3 aJ=>?_;have ae:=x0b n aJ;have aj:=O (V c W3 ae);refine hK.out _ _ ?_ (fun hHeld=>?_)
    ·exact V aj
    clear hK K
    try simp only[Act.put,sa9,sb9,sc9]
    refine tk9 6 (.int .i64 fp) ?_ (hy:=by(intro w hSw;obtain⟨H,N,s,C,s4,B,a,X,o,q,d,k,U,J⟩:=(congrFun Y _).mpr hSw;have aP:=V E _ (V J);go_simp));refine tk9 8 (.bool (decide (fp<(i:Int)))) ?_;refine tk9 9 (.bool (decide (fp<(i:Int)))) ?_;by_cases aD:fp<(i:Int)
    ·have aC:decide (fp<(i:Int))=true:=d0t aD
     obtain rfl:R=74:=by
      rw[<- V HR,aC];simp
     rw[aC];refine tn9 10 ?_;refine tn9 11 ?_;refine tn9 12 ?_;refine tn9 13 ?_;refine tn9 14 ?_;refine tn9 15 ?_;refine tn9 16 ?_;refine tn9 17 ?_;refine tn9 18 ?_;refine tn9 19 ?_;refine tn9 20 ?_;refine tn9 21 ?_;refine tn9 22 ?_;refine tk9 23 (.bool true) ?_;refine tk9 24 (.bool true) ?_;refine wpAnyH_done f4z ?_ _;have T:=V b W3 74 ae;clear c ab b K3 aj ae hHeld HR E KP m v n g;exact U7J
    ·have ar:decide (fp<(i:Int))=false:=d0f aD;rw[ar];have K4:=O (V KP W3 ae);refine tk9 10 (.agg #[.slice P cs.length Z,.slice M os.length D,.map (some mr)]) ?_ (hy:=g2d);refine tk9 11 (.pointer (some ⟨w.heap.size+1,1,none⟩)) ?_ (hy:=g2d);refine tk9 12 (.int .i64 lo) ?_ (hy:=g2d);refine tk9 13 (.int .i32 lo) ?_ (hy:=g2d);refine tk9 14 (.pointer (some ⟨w.heap.size+1,4,none⟩)) ?_ (hy:=g2d);refine tk9 15 (.slice (some ⟨tb,G,none⟩) 2 L) ?_ (hy:=g2d);refine tk9 16 (.pointer (some ⟨tb,G,none⟩)) ?_ (hy:=g2d);refine tk9 17 (.int .i32 pa) ?_ (hy:=g2d);refine tk9 18 (.pointer (some ⟨w.heap.size+1,4,none⟩)) ?_ (hy:=g2d);refine tk9 19 (.slice (some ⟨tb,G,none⟩) 2 L) ?_ (hy:=g2d);refine tk9 20 (.pointer (some ⟨tb,G+1,none⟩)) ?_ (hy:=g2d);refine tk9 21 (.int .i32 pb) ?_ (hy:=g2d);refine rd9 22 fun K hK=>?_;go_simp;refine c0m K4 fun W4 aK=>?_;have af:=x0b ae aK;have F:=O (V c W4 af);refine hK.out _ _ ?_ (fun hHeld=>?_)
     ·exact V F
     clear hK K
     try simp only[Act.put,sa9,sb9,sc9]
     refine tk9 23 (.bool wp) ?_;refine tk9 24 (.bool wp) ?_;refine wpAnyH_done f4z ?_ _;cases wp
     ·obtain rfl:R=0:=by
       rw[<- V HR,ar];simp
      have T:=V b W4 0 af;exact M8t
     ·obtain rfl:R=74:=by
       rw[<- V HR,ar];simp
      have T:=V b W4 74 af;exact M8t
   ·have aT:(wf != 0)=true:=(by simp[hz]);obtain rfl:R=wf:=(by rw[<- V HR,if_pos hz]);have T:=V b W2 R v;clear hz;clear c b v HR E KP m g;exact U7J
  ·rw[if_pos rfl];go_enter func84,ntmps84;go_wp2;refine wp_region_held_drew (S:=fun w'=>SP w') f4z (V ab) (fun hHeld=>?_);refine tk9 0 (.agg #[.int .i64 7,.int .i64 lo,.int .i64 hi,.int .i64 nn,.slice (some ⟨tb,G,none⟩) 2 L,.string nm,.string ot,.float .f64 wt]) ?_ (hy:=g2d);refine rd9 1 fun K hK=>?_;go_simp;refine c0m r fun f ag=>?_;have g:=x0b am ag;have I:=O (V c f g);refine hK.out _ _ ?_ (fun hHeld=>?_)
   ·exact V I
   clear hK K
   try simp only[Act.put,sa9,sb9,sc9]
   refine tk9 2 (.bool false) ?_;refine tk9 3 (.bool true) ?_;refine tk9 4 (.bool true) ?_;refine tk9 5 (.pointer (some ⟨w.heap.size+1,4,none⟩)) ?_ (hy:=g2d);refine tk9 6 (.slice (some ⟨tb,G,none⟩) 2 L) ?_ (hy:=g2d);refine tk9 7 (.pointer (some ⟨tb,G,none⟩)) ?_ (hy:=g2d);refine tk9 8 (.int .i32 pa) ?_ (hy:=g2d);refine tk9 9 (.pointer (some ⟨w.heap.size+1,4,none⟩)) ?_ (hy:=g2d);refine tk9 10 (.slice (some ⟨tb,G,none⟩) 2 L) ?_ (hy:=g2d);refine tk9 11 (.pointer (some ⟨tb,G+1,none⟩)) ?_ (hy:=g2d);refine tk9 12 (.int .i32 pb) ?_ (hy:=g2d);refine rd9 13 fun K hK=>?_;go_simp;refine(V KM _).mono ?_;rintro e aq ⟨rfl,aG⟩;subst aq;refine hK.out _ _ ?_ (fun hHeld=>?_)
   ·exact V I
   clear hK K
   try simp only[Act.put,sa9,sb9,sc9]
   refine tk9 14 (.bool true) ?_;exact v7c
 ·rw[Bool.true_or,if_pos rfl];go_enter func84,ntmps84;go_wp2;refine wp_region_held_drew (S:=fun w'=>SP w') f4z (V ab) (fun hHeld=>?_);refine tk9 0 (.agg #[.int .i64 7,.int .i64 lo,.int .i64 hi,.int .i64 nn,.slice (some ⟨tb,G,none⟩) 2 L,.string nm,.string ot,.float .f64 wt]) ?_ (hy:=g2d);refine rd9 1 fun K hK=>?_;go_simp;refine c0m r fun f ag=>?_;have g:=x0b am ag;have I:=O (V c f g);refine hK.out _ _ ?_ (fun hHeld=>?_)
  ·exact V I
  clear hK K
  try simp only[Act.put,sa9,sb9,sc9]
  refine tk9 2 (.bool true) ?_;refine tn9 3 ?_;refine tn9 4 ?_;refine tn9 5 ?_;refine tn9 6 ?_;refine tn9 7 ?_;refine tn9 8 ?_;refine tn9 9 ?_;refine tn9 10 ?_;refine tn9 11 ?_;refine tn9 12 ?_;refine tn9 13 ?_;refine tn9 14 ?_;exact v7c
