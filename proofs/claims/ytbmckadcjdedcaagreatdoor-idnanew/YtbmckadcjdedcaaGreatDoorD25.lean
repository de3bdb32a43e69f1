/- CcT77 -/
import Derived.Test.YtbmckadcjdedcaaGreatDoorD13
set_option maxHeartbeats 16000000
set_option maxRecDepth 20000
namespace Go.Proofs.YtbmckadcjdedcaaGreatDoor
open Go.Proofs.Tryz
open Go.RowKit
section
variable{p:Prop}
theorem i4x(h:p:=by(intro w hSw;obtain⟨T,J,d,Y,F,r,n,o,s8,B,k,m,a,U⟩:=(congrFun H _).mpr hSw;go_simp)):p:=h
theorem n2p(h:p:=by refine tk9 15 (.bool true) ?_;refine tk9 16 (.bool true) ?_;refine wpAnyH_done f4z ?_ _;have HF:=V N f 71 g;clear c y N KT ai KW KM KP ae s A g hHeld;go_wp2;go_ret;exact HF):p:=h
theorem R9f(h:p:=by clear c y N K3 K4 aw ay af am hHeld HR s KP ae aj E g;go_wp2;go_ret;exact HF):p:=h
theorem t7M(h:p:=by simp[IntKind.wrap,IntKind.bits,IntKind.signed];omega):p:=h
end
theorem z9k(l cs b:List Rec)(cv ov:Value)(v i:Nat)(lo hi I:Int)(C:List Int)(Z M:ByteArray)(wt:Nat)(vt:Value)(w:World)(hg:Glob w)(h:Idx l w cv ov cs b)(hs:Sk .i32 w vt C)(aV:¬lo<128)(aB:Rune lo)(ag:C.length=2)(aC:Rune (C.getD 0 0))(aD:Rune (C.getD 1 0))(hp:PAt w v (Cn.firstP l)) :
  Calls prog 84 #[xV cv ov (.map (some v)),.int .i64 (i:Int),recV (⟨7,lo,hi,I,C,Z,M,wt⟩:Rec) vt] w (IntB w (if(touches (⟨7,lo,hi,I,C,Z,M,wt⟩:Rec)||makes (C.getD 0 0) (C.getD 1 0))=true then 71 else if Cn.wfull l lo≠0 then Cn.wfull l lo else if(decide ((Cn.firstP l (C.getD 0 0) (C.getD 1 0)).getD 0<(i:Int))||Cn.wpair l lo (C.getD 0 0) (C.getD 1 0))=true then 74 else 0)):=by
 obtain⟨p,D,rfl,_,_⟩:=h.rc.shape;obtain⟨P,ab,rfl,_,_⟩:=h.ro.shape;obtain⟨tb,G,L,rfl,_,_,X⟩:=hs.place f6J;have ar:=X 0 f6J;have aN:=X 1 f6J;rw[Nat.add_zero]at ar;have aF:Hid (Sk .i32 w (.slice (some ⟨tb,G,none⟩) 2 L) C):=ag ▸ hs;obtain⟨Q,hQ⟩:∃Q,((w.alloc (.cells #[.slice p cs.length D,.slice P b.length ab,.map (some v)] 125)).alloc (.cells #[.int .i64 7,.int .i64 lo,.int .i64 hi,.int .i64 I,.slice (some ⟨tb,G,none⟩) 2 L,.string Z,.string M,.float .f64 wt] 67))=Q:=⟨_,rfl⟩;have aG:Bw w Q:=(by rw[<- hQ];exact((b0r).alloc (l0r _) _).alloc (by simp) _);have aX:Q.heap.size=w.heap.size+2:=by rw[<- hQ];simp
 have aM:Q.heap[w.heap.size]?=some (.cells #[.slice p cs.length D,.slice P b.length ab,.map (some v)] 125 (0,0)):=by
  rw[<- hQ];exact n9Y
 have aK:Q.heap[w.heap.size+1]?=some (.cells #[.int .i64 7,.int .i64 lo,.int .i64 hi,.int .i64 I,.slice (some ⟨tb,G,none⟩) 2 L,.string Z,.string M,.float .f64 wt] 67 (0,0)):=by
  rw[<- hQ];show((w.heap.push _).push _)[w.heap.size+1]?=_;rw[Array.getElem?_push];simp
 have x:Hid (∀W:World,Bw Q W->Bw w W):=fun W t=>aG.trans (t.mono f6J);obtain⟨SP,H⟩:∃SP:World->Prop,(fun W=>(W.cell? ⟨w.heap.size+1,0,none⟩=some (.int .i64 7)/\W.cell? ⟨w.heap.size+1,1,none⟩=some (.int .i64 lo)/\W.cell? ⟨w.heap.size+1,2,none⟩=some (.int .i64 hi)/\W.cell? ⟨w.heap.size+1,3,none⟩=some (.int .i64 I)/\W.cell? ⟨w.heap.size+1,4,none⟩=some (.slice (some ⟨tb,G,none⟩) 2 L)/\W.cell? ⟨w.heap.size+1,5,none⟩=some (.string Z)/\W.cell? ⟨w.heap.size+1,6,none⟩=some (.string M)/\W.cell? ⟨w.heap.size+1,7,none⟩=some (.float .f64 wt)/\W.cell? ⟨w.heap.size,0,none⟩=some (.slice p cs.length D)/\W.cell? ⟨w.heap.size,1,none⟩=some (.slice P b.length ab)/\W.cell? ⟨w.heap.size,2,none⟩=some (.map (some v))/\W.cell? ⟨tb,G,none⟩=some (.int .i32 (C.getD 0 0))/\W.cell? ⟨tb,G+1,none⟩=some (.int .i32 (C.getD 1 0))/\Hid (Bw Q W)))=SP:=⟨_,rfl⟩
 have c:Hid (∀W:World,Bw Q W->SP W):=fun W t=>by
  rw[<- H];have hx:=(t.block (w.heap.size) f6J).trans aM;have u:=(t.block (w.heap.size+1) f6J).trans aK;exact⟨cell_of (j:=0) u s5q,cell_of (j:=1) u G0Z,cell_of (j:=2) u V3Y,cell_of (j:=3) u e8d,cell_of (j:=4) u e2Z,cell_of (j:=5) u i3Z,cell_of (j:=6) u F4N,cell_of (j:=7) u U3A,cell_of (j:=0) hx T7f,cell_of (j:=1) hx f2P,cell_of (j:=2) hx U4w,by rw[(V x W t).cell (x0a ar)];exact ar,by rw[(V x W t).cell (x0a ar)];exact aN,t⟩
 have KT:Hid (∀W:World,Calls prog 129 #[.agg #[.int .i64 7,.int .i64 lo,.int .i64 hi,.int .i64 I,.slice (some ⟨tb,G,none⟩) 2 L,.string Z,.string M,.float .f64 wt]] W (x0c W (touches (⟨7,lo,hi,I,C,Z,M,wt⟩:Rec)))):=fun W=>x3S (⟨7,lo,hi,I,C,Z,M,wt⟩:Rec) _ _ _ W;have KW:Hid (∀W:World,Bw Q W->Calls prog 131 #[.agg #[.slice p cs.length D,.slice P b.length ab,.map (some v)],.int .i32 lo] W (IntB W (Cn.wfull l lo))):=fun W t=>y1o l cs b _ _ v lo W (hg.on (V x W t)) (h.below (V x W t)) aB
 have aW:IntKind.i32.wrap lo=lo:=by
  unfold Rune at aB;exact t7M
 have KM:Hid (∀W:World,Calls prog 130 #[.int .i32 (C.getD 0 0),.int .i32 (C.getD 1 0)] W (fun e w'=>e=.returned (.bool (makes (C.getD 0 0) (C.getD 1 0)))/\w'=W)):=fun W=>y8B _ _ W;have ae:Hid (∀W:World,Bw Q W->Calls prog 126 #[.agg #[.int .i64 7,.int .i64 lo,.int .i64 hi,.int .i64 I,.slice (some ⟨tb,G,none⟩) 2 L,.string Z,.string M,.float .f64 wt]] W (fun e w'=>e=.returned (pk2 (C.getD 0 0) (C.getD 1 0))/\Bw W w')):=fun W t=>x8e (⟨7,lo,hi,I,C,Z,M,wt⟩:Rec) _ W ((V aF).below (V x W t)) ag;have KP:Hid (∀W:World,Bw Q W->Calls prog 132 #[.agg #[.slice p cs.length D,.slice P b.length ab,.map (some v)],.int .i32 lo,.int .i32 (C.getD 0 0),.int .i32 (C.getD 1 0)] W (x0c W (Cn.wpair l lo (C.getD 0 0) (C.getD 1 0)))):=fun W t=>z0r l cs b _ _ v lo _ _ W (hg.on (V x W t)) (h.below (V x W t)) aB aC aD
 have s:Hid (∀W:World,Bw Q W->(Instr.lookup 123 (.map (some v)) (pk2 (C.getD 0 0) (C.getD 1 0)) false).run prog W=.ok (.int .i64 ((Cn.firstP l (C.getD 0 0) (C.getD 1 0)).getD 0)) W):=fun W t=>by
  obtain⟨es,cl,q1,q2⟩:=hp;exact(look_ok ⟨es,cl,by rw[(V x W t).block _ (x0B q1)];exact q1,q2⟩ aC aD).2
 have q:Bw Q Q.drew:=x0k ⟨1,rfl⟩;have y:=O (V c _ q);have N:Hid (∀W z,Bw Q W->IntB w z (.returned (.int .i64 z)) W):=fun W z t=>⟨rfl,V x W t⟩;have ai:=O (V KT Q.drew);rw[ag];clear ag hs hp aC aD X ar aN aF;generalize Cn.wpair l lo (C.getD 0 0) (C.getD 1 0)=wp,(Cn.firstP l (C.getD 0 0) (C.getD 1 0)).getD 0=fp,makes (C.getD 0 0) (C.getD 1 0)=mk at *;generalize C.getD 0 0=pa,C.getD 1 0=pb at *;unfold pk2 at *;generalize touches (⟨7,lo,hi,I,C,Z,M,wt⟩:Rec)=tc,Cn.wfull l lo=wf at *;subst hQ;unfold xV recV;clear aM aK aG h hg;cases tc
 ·rw[Bool.false_or];cases mk
  ·rw[if_neg e8P];obtain⟨R,hR⟩:∃R,(if wf≠0 then wf else if(decide (fp<(i:Int))||wp)=true then 74 else 0)=R:=⟨_,rfl⟩;rw[hR];have HR:=O hR;clear hR;go_enter func84,ntmps84;go_wp2;refine wp_region_held_drew (S:=fun w'=>SP w') f4z (V y) (fun hHeld=>?_);refine tk9 0 (.agg #[.int .i64 7,.int .i64 lo,.int .i64 hi,.int .i64 I,.slice (some ⟨tb,G,none⟩) 2 L,.string Z,.string M,.float .f64 wt]) ?_ (hy:=i4x);refine rd9 1 fun K hK=>?_;go_simp;refine c0m ai fun f aq=>?_;have g:=x0b q aq;have A:=O (V c f g);refine hK.out _ _ ?_ (fun hHeld=>?_)
   ·exact V A
   clear hK K
   try simp only[Act.put,sa9,sb9,sc9]
   refine tk9 2 (.bool false) ?_;refine tk9 3 (.bool true) ?_;refine tk9 4 (.bool true) ?_;refine tk9 5 (.pointer (some ⟨w.heap.size+1,4,none⟩)) ?_ (hy:=i4x);refine tk9 6 (.slice (some ⟨tb,G,none⟩) 2 L) ?_ (hy:=i4x);refine tk9 7 (.pointer (some ⟨tb,G,none⟩)) ?_ (hy:=i4x);refine tk9 8 (.int .i32 pa) ?_ (hy:=i4x);refine tk9 9 (.pointer (some ⟨w.heap.size+1,4,none⟩)) ?_ (hy:=i4x);refine tk9 10 (.slice (some ⟨tb,G,none⟩) 2 L) ?_ (hy:=i4x);refine tk9 11 (.pointer (some ⟨tb,G+1,none⟩)) ?_ (hy:=i4x);refine tk9 12 (.int .i32 pb) ?_ (hy:=i4x);refine rd9 13 fun K hK=>?_;go_simp;refine(V KM _).mono ?_;rintro e az ⟨rfl,aL⟩;subst az;refine hK.out _ _ ?_ (fun hHeld=>?_)
   ·exact V A
   clear hK K
   try simp only[Act.put,sa9,sb9,sc9]
   refine tk9 14 (.bool false) ?_;refine tk9 15 (.bool false) ?_;refine tk9 16 (.bool false) ?_;refine wpAnyH_done f4z ?_ _;obtain⟨q0,q1,q2,q3,q4,q5,q6,q7,q8,q9,aQ,aR,aS,aT⟩:=(congrFun H _).mpr (V A);have K2:=O (V KW f g);clear A y KT ai KW KM hHeld;go_wp2_with fail;refine c0m K2 fun W2 aH=>?_;have aj:=x0b g aH;clear K2 aH q0 q1 q2 q3 q4 q5 q6 q7 q8 q9 aQ aR aS aT;by_cases hz:wf=0
   ·subst hz;have E:Below _ _ W2.drew:=x0b aj (x0k ⟨1,rfl⟩);have y:=O (V c _ E);have K3:=O (V ae _ E);go_wp2;refine wp_region_held_drew (S:=fun w'=>SP w') f4z (V y) (fun hHeld=>?_);refine tk9 0 (.bool true) ?_;refine tk9 1 (.bool true) ?_;refine tk9 2 (.pointer (some ⟨w.heap.size,2,none⟩)) ?_ (hy:=i4x);refine tk9 3 (.map (some v)) ?_ (hy:=i4x);refine tk9 4 (.agg #[.int .i64 7,.int .i64 lo,.int .i64 hi,.int .i64 I,.slice (some ⟨tb,G,none⟩) 2 L,.string Z,.string M,.float .f64 wt]) ?_ (hy:=i4x);refine tk9 7 (.int .i64 (i:Int)) ?_;refine rd9 5 fun K hK=>?_;go_simp;refine c0m K3 fun W3 aO=>?_;have af:=x0b E aO;have aw:=O (V c W3 af);refine hK.out _ _ ?_ (fun hHeld=>?_)
    ·exact V aw
    clear hK K
    try simp only[Act.put,sa9,sb9,sc9]
    refine tk9 6 (.int .i64 fp) ?_ (hy:=by(intro w hSw;obtain⟨T,J,d,Y,F,r,n,o,s8,B,k,m,a,U⟩:=(congrFun H _).mpr hSw;have aU:=V s _ (V U);go_simp));refine tk9 8 (.bool (decide (fp<(i:Int)))) ?_;refine tk9 9 (.bool (decide (fp<(i:Int)))) ?_;by_cases aJ:fp<(i:Int)
    ·have aI:decide (fp<(i:Int))=true:=d0t aJ
     obtain rfl:R=74:=by
      rw[<- V HR,aI];simp
     rw[aI];refine tn9 10 ?_;refine tn9 11 ?_;refine tn9 12 ?_;refine tn9 13 ?_;refine tn9 14 ?_;refine tn9 15 ?_;refine tn9 16 ?_;refine tn9 17 ?_;refine tn9 18 ?_;refine tn9 19 ?_;refine tn9 20 ?_;refine tn9 21 ?_;refine tn9 22 ?_;refine tk9 23 (.bool true) ?_;refine tk9 24 (.bool true) ?_;refine wpAnyH_done f4z ?_ _;have HF:=V N W3 74 af;clear c y N K3 aw af hHeld HR s KP ae aj E g;go_wp2;go_ret;exact HF
    ·have aA:decide (fp<(i:Int))=false:=d0f aJ;rw[aA];have K4:=O (V KP W3 af);refine tk9 10 (.agg #[.slice p cs.length D,.slice P b.length ab,.map (some v)]) ?_ (hy:=i4x);refine tk9 11 (.pointer (some ⟨w.heap.size+1,1,none⟩)) ?_ (hy:=i4x);refine tk9 12 (.int .i64 lo) ?_ (hy:=i4x);refine tk9 13 (.int .i32 lo) ?_ (hy:=i4x);refine tk9 14 (.pointer (some ⟨w.heap.size+1,4,none⟩)) ?_ (hy:=i4x);refine tk9 15 (.slice (some ⟨tb,G,none⟩) 2 L) ?_ (hy:=i4x);refine tk9 16 (.pointer (some ⟨tb,G,none⟩)) ?_ (hy:=i4x);refine tk9 17 (.int .i32 pa) ?_ (hy:=i4x);refine tk9 18 (.pointer (some ⟨w.heap.size+1,4,none⟩)) ?_ (hy:=i4x);refine tk9 19 (.slice (some ⟨tb,G,none⟩) 2 L) ?_ (hy:=i4x);refine tk9 20 (.pointer (some ⟨tb,G+1,none⟩)) ?_ (hy:=i4x);refine tk9 21 (.int .i32 pb) ?_ (hy:=i4x);refine rd9 22 fun K hK=>?_;go_simp;refine c0m K4 fun W4 aP=>?_;have am:=x0b af aP;have ay:=O (V c W4 am);refine hK.out _ _ ?_ (fun hHeld=>?_)
     ·exact V ay
     clear hK K
     try simp only[Act.put,sa9,sb9,sc9]
     refine tk9 23 (.bool wp) ?_;refine tk9 24 (.bool wp) ?_;refine wpAnyH_done f4z ?_ _;cases wp
     ·obtain rfl:R=0:=by
       rw[<- V HR,aA];simp
      have HF:=V N W4 0 am;exact R9f
     ·obtain rfl:R=74:=by
       rw[<- V HR,aA];simp
      have HF:=V N W4 74 am;exact R9f
   ·have aY:(wf != 0)=true:=(by simp[hz]);obtain rfl:R=wf:=(by rw[<- V HR,if_pos hz]);have HF:=V N W2 R aj;clear hz;clear c N aj HR s KP ae g;go_wp2;go_ret;exact HF
  ·rw[if_pos rfl];go_enter func84,ntmps84;go_wp2;refine wp_region_held_drew (S:=fun w'=>SP w') f4z (V y) (fun hHeld=>?_);refine tk9 0 (.agg #[.int .i64 7,.int .i64 lo,.int .i64 hi,.int .i64 I,.slice (some ⟨tb,G,none⟩) 2 L,.string Z,.string M,.float .f64 wt]) ?_ (hy:=i4x);refine rd9 1 fun K hK=>?_;go_simp;refine c0m ai fun f aq=>?_;have g:=x0b q aq;have A:=O (V c f g);refine hK.out _ _ ?_ (fun hHeld=>?_)
   ·exact V A
   clear hK K
   try simp only[Act.put,sa9,sb9,sc9]
   refine tk9 2 (.bool false) ?_;refine tk9 3 (.bool true) ?_;refine tk9 4 (.bool true) ?_;refine tk9 5 (.pointer (some ⟨w.heap.size+1,4,none⟩)) ?_ (hy:=i4x);refine tk9 6 (.slice (some ⟨tb,G,none⟩) 2 L) ?_ (hy:=i4x);refine tk9 7 (.pointer (some ⟨tb,G,none⟩)) ?_ (hy:=i4x);refine tk9 8 (.int .i32 pa) ?_ (hy:=i4x);refine tk9 9 (.pointer (some ⟨w.heap.size+1,4,none⟩)) ?_ (hy:=i4x);refine tk9 10 (.slice (some ⟨tb,G,none⟩) 2 L) ?_ (hy:=i4x);refine tk9 11 (.pointer (some ⟨tb,G+1,none⟩)) ?_ (hy:=i4x);refine tk9 12 (.int .i32 pb) ?_ (hy:=i4x);refine rd9 13 fun K hK=>?_;go_simp;refine(V KM _).mono ?_;rintro e az ⟨rfl,aL⟩;subst az;refine hK.out _ _ ?_ (fun hHeld=>?_)
   ·exact V A
   clear hK K
   try simp only[Act.put,sa9,sb9,sc9]
   refine tk9 14 (.bool true) ?_;exact n2p
 ·rw[Bool.true_or,if_pos rfl];go_enter func84,ntmps84;go_wp2;refine wp_region_held_drew (S:=fun w'=>SP w') f4z (V y) (fun hHeld=>?_);refine tk9 0 (.agg #[.int .i64 7,.int .i64 lo,.int .i64 hi,.int .i64 I,.slice (some ⟨tb,G,none⟩) 2 L,.string Z,.string M,.float .f64 wt]) ?_ (hy:=i4x);refine rd9 1 fun K hK=>?_;go_simp;refine c0m ai fun f aq=>?_;have g:=x0b q aq;have A:=O (V c f g);refine hK.out _ _ ?_ (fun hHeld=>?_)
  ·exact V A
  clear hK K
  try simp only[Act.put,sa9,sb9,sc9]
  refine tk9 2 (.bool true) ?_;refine tn9 3 ?_;refine tn9 4 ?_;refine tn9 5 ?_;refine tn9 6 ?_;refine tn9 7 ?_;refine tn9 8 ?_;refine tn9 9 ?_;refine tn9 10 ?_;refine tn9 11 ?_;refine tn9 12 ?_;refine tn9 13 ?_;refine tn9 14 ?_;exact n2p
