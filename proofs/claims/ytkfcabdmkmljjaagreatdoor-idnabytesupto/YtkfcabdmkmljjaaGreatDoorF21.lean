/- Lemmas. -/
import Derived.Test.YtkfcabdmkmljjaaGreatDoorF19
import Derived.Test.YtkfcabdmkmljjaaGreatDoorF22
import Derived.Test.YtkfcabdmkmljjaaGreatDoorF24
import Derived.Test.YtkfcabdmkmljjaaGreatDoorF25
import Derived.Test.YtkfcabdmkmljjaaGreatDoorF26
import Derived.Test.YtkfcabdmkmljjaaGreatDoorF27
import Derived.Test.YtkfcabdmkmljjaaGreatDoorF28
import Derived.Test.YtkfcabdmkmljjaaGreatDoorF29
import Derived.Test.YtkfcabdmkmljjaaGreatDoorF30
import Derived.Test.YtkfcabdmkmljjaaGreatDoorF32
set_option maxHeartbeats 8000000
set_option maxRecDepth 100000
namespace Go.Proofs.YtkfcabdmkmljjaaGreatDoor
open Go.Proofs.Tryz
open Go.RowKit
open Ti
section
variable{p:Prop}
theorem V6h(h:p:=by unfold Cn.x1j;rw[h];rfl):p:=h
theorem m0B(h:p:=by simp only[Bool.and_eq_true]at D;have:=x5n D.1.2;omega):p:=h
theorem g2b(h:p:=by have:=of_decide_eq_false h;exact f6J):p:=h
theorem u9j(h:p:=by simp only[Bool.and_eq_true]at D;have:=x5n D.1;omega):p:=h
theorem R3W(h:p:=by go_wp2_with(go_at_call 38;refine(V K).mono ?_;rintro e R ⟨rfl,A,rfl⟩;clear K);go_ret;exact⟨rfl,A,rfl⟩):p:=h
theorem f4w(h:p:=by
 rcases u4.1.2 with⟨e,_⟩ | ⟨_,_,_,e,_⟩
 ·exact⟨_,_,_,e⟩
 ·exact⟨_,_,_,e⟩):p:=h
end
theorem x7Z v rs kind w(hg:Glob w)(hv:Rcs w v rs)(hk:I64 kind)(cB:∀r∈Cn.famOf (Cn.fam kind) rs,Cn.right r=0/\r.kind≠15)(hl:(Cn.famOf (Cn.fam kind) rs).length<=4096)(bO:∀m:List Tri.Rg,m.Perm (Cn.rangesA (fun i _=>(i:Int)) 1 (Cn.famOf (Cn.fam kind) rs))->(m.Pairwise fun x y=>Tri.lo x<=Tri.lo y)->Tri.Val 0 m):Calls prog 95 #[v,.int .i64 kind] w (SpkB w (Cn.famOf (Cn.fam kind) rs)):=by
 obtain⟨i0,ce,cM,cN,cO⟩:=info_parts Tryz.info272;obtain⟨i1,cf,cJ,cK,cL⟩:=info_parts Tryz.info60;obtain⟨W1,W2,de,bZ,aI,aU,cE,bA⟩:=z8a w;have K1:=O (x5r v rs kind W2 (hg.on aI) (hv.below aI) hk);unfold FamB at K1
 have bF:W2.heap[w.heap.size+1]?=some (.cells #[.int .i64 0,.int .i64 0,.int .i64 0,.int .i64 0,.slice none 0 0,.string ⟨#[]⟩,.string ⟨#[]⟩,.float .f64 0] 60 (0,0)):=by
  rw[<- bZ,<- aU];show(W1.heap.push _)[W1.heap.size]?=_;simp
 obtain⟨ao,cap,cI,_,_⟩:=hv.shape;generalize Cn.famOf (Cn.fam kind) rs=fs at *;have L:=O cB;have aA:=O bO;have bS:=O bA;have bR:=O bF;have da:=O aI;have bj:=O cE;subst cI;go_enter func95,ntmps95;go_wp2_with fail;refine(V K1).mono ?_;rintro e1 w1 ⟨v1,qs,rfl,bJ,hR,aK⟩;have dk:qs.length=fs.length:=(by rw[<- bJ,List.length_map]);have aT:Rcs w1 v1 fs:=(by rw[<- bJ];exact hR.rsx.rcs aK f6J);have ay:=O (V bS w1 aK)
 have aN:w1.heap[w.heap.size+1]?=some (.cells #[.int .i64 0,.int .i64 0,.int .i64 0,.int .i64 0,.slice none 0 0,.string ⟨#[]⟩,.string ⟨#[]⟩,.float .f64 0] 60 (0,0)):=by
  rw[aK.block _ (by have:=V bj;exact f6J)];exact V bR
 have aH:Hid (∀k,(Cn.rangesA (fun i _=>(i:Int)) 1 (fs.take k)).length<=4563402752):=fun k=>by
  have h1:=Cn.x3G (g:=fun i _=>(i:Int)) (fs.take k) 1 (fun r hr=>V L r (List.mem_of_mem_take hr));have h2:(fs.take k).length<=fs.length:=List.length_take_le' _ _;omega
 have aw:Hid (∀k,k<fs.length->∃b P cap va,v1=.slice (some ⟨b,P,none⟩) fs.length cap/\RecFit (fs.getD k Cn.none)/\∀W:World,(∀g,g<w1.heap.size->g≠w.heap.size+1->W.heap[g]?=w1.heap[g]?)->(W.cell? ⟨b,P+k*8,none⟩=some (.int .i64 (fs.getD k Cn.none).kind)/\W.cell? ⟨b,P+k*8+1,none⟩=some (.int .i64 (fs.getD k Cn.none).lo)/\W.cell? ⟨b,P+k*8+2,none⟩=some (.int .i64 (fs.getD k Cn.none).hi)/\W.cell? ⟨b,P+k*8+3,none⟩=some (.int .i64 (fs.getD k Cn.none).n)/\W.cell? ⟨b,P+k*8+4,none⟩=some va/\W.cell? ⟨b,P+k*8+5,none⟩=some (.string (fs.getD k Cn.none).name)/\W.cell? ⟨b,P+k*8+6,none⟩=some (.string (fs.getD k Cn.none).other)/\W.cell? ⟨b,P+k*8+7,none⟩=some (.float .f64 (fs.getD k Cn.none).wt))/\Sk .i32 W va (fs.getD k Cn.none).to):=fun k hk=>by
  obtain⟨b,P,cap,he,_,_,hc⟩:=aT.place f6J;have dh:W2.heap.size<=b:=(hR.1.lt b (by rw[he];rfl)).1;have cd:b≠w.heap.size+1:=(by have:=V bj;exact f6J);obtain⟨y0,y1,y2,y3,⟨va,y4,aq⟩,y5,y6,y7⟩:=hc k hk;refine⟨b,P,cap,va,he,aT.fit hk,fun W hW=>?_⟩;have e:∀j,W.cell? ⟨b,j,none⟩=w1.cell? ⟨b,j,none⟩:=fun j=>World.cell?_of_block (hW b (x0a y0) cd);exact⟨⟨by rw[e];exact y0,by rw[e];exact y1,by rw[e];exact y2,by rw[e];exact y3,by rw[e];exact y4,by rw[e];exact y5,by rw[e];exact y6,by rw[e];exact y7⟩,q0R aN hW aq⟩
 have bp:Hid (∀k,k<fs.length->Cn.rangesA (fun i _=>(i:Int)) 1 (fs.take (k+1))=Cn.rangesA (fun i _=>(i:Int)) 1 (fs.take k)++Cn.spoken (fs.getD k Cn.none) ((1+k:Nat):Int)/\fs.take (k+1)=fs.take k++[fs.getD k Cn.none]):=fun k hk=>by
  have e:fs.take (k+1)=fs.take k++[fs.getD k Cn.none]:=by
   rw[List.take_add_one];exact E8Q
  rw[e,Cn.x2U,List.length_take,Nat.min_eq_left f6J];exact⟨rfl,rfl⟩
 obtain⟨db,cQ,bP,_,_⟩:=aT.shape;subst bP;go_wp2;go_loopw[5,6,8,15] (fun lv rv _ iv wr=>∃(k:Nat) (ps:List (Rec×Value)),iv=.int .i64 k/\k<=fs.length/\ps.map (·.1)=Cn.none::fs.take k/\ps.length=k+1/\(∃lo cap,lv=.slice lo (k+1) cap/\cap<=9223372036854775807)/\Spst w w1 wr rv lv (Cn.rangesA (fun i _=>(i:Int)) 1 (fs.take k)) ps) (fun _ _ _ iv _=>fs.length-(intOf iv).toNat)
 case atStart=>exact⟨0,[(Cn.none,.slice none 0 0)],rfl,f6J,rfl,rfl,⟨_,_,by first| rfl|(rw[aU];rfl),f6J⟩,by first| exact V ay|(rw[aU];exact V ay)⟩
 case round =>
  obtain⟨k,ps,rfl,hk,aP,G,⟨A,H,rfl,di⟩,K⟩:=hrel;by_cases aO:k<fs.length
  ·obtain⟨b,P,cP,va,he,aF,bw⟩:=V aw k aO;obtain⟨q1,q2,q3⟩:=Value.slice.inj he;subst q1;obtain⟨aQ,aR⟩:=V L (fs.getD k Cn.none) (by simp[List.getD,aO]);obtain⟨bt,bX⟩:=V bp k aO;have bQ:=V aH k;obtain⟨⟨x0,x1,x2,x3,x4,x5,x6,x7⟩,aq⟩:=bw wr K.old;obtain⟨d,J,rfl,_,_⟩:=aq.shape;generalize fs.getD k Cn.none=r at *;have cG:Fi (((1+k:Nat):Int)):=⟨f6J,f6J⟩;have bK:=y1M r ((1+k:Nat):Int) aQ aR;have cF:=Cn.x5f aQ aR ((1+k:Nat):Int);have cj:(((1+k:Nat):Int))=(k:Int)+1:=f6J;have C:=K.bel;obtain⟨q,E⟩:∃q,wr.alloc (.cells #[.int .i64 r.kind,.int .i64 r.lo,.int .i64 r.hi,.int .i64 r.n,.slice d r.to.length J,.string r.name,.string r.other,.float .f64 r.wt] 60)=q:=⟨_,rfl⟩;have bE:Bw wr q:=by rw[<- E];exact(b0r).alloc (l0r _) _
   have F:q.heap[wr.heap.size]?=some (.cells #[.int .i64 r.kind,.int .i64 r.lo,.int .i64 r.hi,.int .i64 r.n,.slice d r.to.length J,.string r.name,.string r.other,.float .f64 r.wt] 60 (0,0)):=by
    rw[<- E];exact s6P
   have dl:q.heap.size=wr.heap.size+1:=(by rw[<- E];exact World.size_alloc _ _);have bY:=K.below bE;have KS:=O (x7B r (.slice d r.to.length J) _ q aF (aq.below bE) aQ aR cG);unfold recV at KS;rw[cj]at KS bt bK cF;have KC:Hid (∀W,(∀g,g<w1.heap.size->g≠w.heap.size+1->W.heap[g]?=w1.heap[g]?)->Calls prog 148 #[.slice d r.to.length J] W (x0h W r.to)):=fun W h=>x2L _ r.to W (bw W h).2 aF.len;unfold x0h at KC;have aZ:Hid (∀g,(Value.slice A (k+1) H).ownBlock=some g->g<wr.heap.size):=fun g Q=>(K.rcs.1.lt g Q).2;have bh:Hid (∀p∈ps,∀g,p.2.ownBlock=some g->g<wr.heap.size):=fun p hp g Q=>((K.rcs.2 p hp).2.2.lt g Q).2;have bT:Hid (∀g,u6.ownBlock=some g->g<wr.heap.size):=fun g Q=>(K.rng.2.2.lt g Q).2;obtain⟨z0,z1,z2,z3,z4,z5,z6,z7⟩:=x4F F;have dj:∀W a m,(store a (.float .f64 r.wt) m).run prog W=stored prog W a (.float .f64 r.wt) m:=fun W a m=>run_store prog W a _ m rfl;have bU:=O bY;have aV:=O F;have cY:=K.sz;have cT:=K.s1;generalize hys:Cn.spoken r ((k:Int)+1)=ys,Cn.rangesA (fun i _=>(i:Int)) 1 (fs.take k)=xs at *;obtain⟨z,lo,hi,c,I,R,M,D⟩:=r;simp only at *;go_wp2_with fail;refine(V KS).mono ?_;rintro e3 w3 ⟨v3,rfl,bB,aL⟩;obtain⟨g3,bu,rfl,bL⟩:=z0p bB bK;have aJ:=(V bU).below aL;have cV:=aJ.sz;have cR:=aL.size;have HM:=O aJ.rng.2.2;have bn:=O bL;have be:=O (Ti.x4T ys);have aG:Hid (∀v4 w4,w4.ownsRow w1.heap.size 272 3 v4 (xs.length+ys.length) (Ti.rcells xs++Ti.rcells ys)->w3.grownBy w4 u6.ownBlock->Spst w w1 w4 v4 (.slice A (k+1) H) (xs++ys) ps):=fun v4 w4 h1 h2=>aJ.ranges bB.1 f6J h1 h2;have aW:Hid (w3.heap[wr.heap.size]?=some (.cells #[.int .i64 z,.int .i64 lo,.int .i64 hi,.int .i64 c,.slice d I.length J,.string R,.string M,.float .f64 D] 60 (0,0))):=(aL.block _ f6J).trans (V aV);go_wp2_with(at_builtin;refine wpList_append_own _ rfl (.tmp 19) (.tmp 23) 230 rfl w1.heap.size 272 i0 (.agg #[.int .i64 0,.int .i64 0,.int .i64 0]) 3 24 underlying230 ce cM cN cO rfl e8R _ _ _ rfl (V HM) ⟨g3,0,none⟩ ys.length bu (Ti.rcells ys) rfl (by rw[Ti.x1I]) (V bn) (V be) T7X f6J f6J ?_);intro v4 w4 cC s _;have bC:=V aG v4 w4 cC s
   have aC:w4.heap[wr.heap.size]?=some (.cells #[.int .i64 z,.int .i64 lo,.int .i64 hi,.int .i64 c,.slice d I.length J,.string R,.string M,.float .f64 D] 60 (0,0)):=by
    rw[s.block _ f6J (fun e=>by have:=V bT _ e.symm;exact f6J)];exact V aW
   have cW:=s.size;have z4:=(x4F aC).2.2.2.2.1;have K5:=O (V KC w4 bC.old);have bm:=O bC;have U:=O aC;go_wp2_with fail;refine(V K5).mono ?_;rintro e5 w5 ⟨v5,rfl,t,Y⟩;obtain⟨l,T,cH,_,_⟩:=t.sk.shape;subst cH;have cX:=Y.size;have am:=(V bm).below Y;have ab:w5.heap[wr.heap.size]?=some (.cells #[.int .i64 z,.int .i64 lo,.int .i64 hi,.int .i64 c,.slice d I.length J,.string R,.string M,.float .f64 D] 60 (0,0)):=(Y.block _ f6J).trans (V U);have y4:=(x4F ab).2.2.2.2.1;have f4:=x0d (j:=4) ab;obtain⟨Z,N⟩:∃Z,w5.setCell ⟨wr.heap.size,4,none⟩ (.slice l I.length T)=Z:=⟨_,rfl⟩
   have aD:Z.heap[wr.heap.size]?=some (.cells #[.int .i64 z,.int .i64 lo,.int .i64 hi,.int .i64 c,.slice l I.length T,.string R,.string M,.float .f64 D] 60 (0,0)):=by
    rw[<- N,x0c ab];rfl
   have bM:Z.heap.size=w5.heap.size:=by rw[<- N];exact x0Z _ _ _ _
   have S:Spst w w1 Z v4 (.slice A (k+1) H) (xs++ys) ps:=by
    refine am.keep (B:=wr.heap.size) f6J (by rw[<- N];exact x0b am.bel C.size _) f6J (fun g _ cw=>by rw[<- N];exact x0e _ cw) (z1m am.rng.2.2 ab e8R) (fun e=>by have:=V aZ _ e;exact f6J) (fun p hp e=>by have:=V bh p hp _ e;exact f6J)
   have bN:Ok .i32 21 Z w.heap.size (.slice l I.length T) I:=by
    refine(t.lower u3W).keep fun g Q=>?_;rw[<- N];exact x0e _ (fun e=>by have:=(t.2.2.lt g Q).1;exact f6J)
   obtain⟨s0,s1,s2,s3,s4,s5,s6,s7⟩:=x4F aD;have ba:Hid (∀o,(Z.alloc o).ownsRow w.heap.size 60 8 (.slice A (k+1) H) (k+1) (rcells ps)):=fun o=>(by have:=S.rcs.1.alloc o;rw[G]at this;exact this);have ar:Hid (∀j u,(x0C (⟨z,lo,hi,c,I,R,M,D⟩,.slice l I.length T))[j]?=some u->(Z.alloc (.cells #[.int .i64 z,.int .i64 lo,.int .i64 hi,.int .i64 c,.slice l I.length T,.string R,.string M,.float .f64 D] 60)).cell? ((⟨Z.heap.size,0,none⟩:Addr).add j)=some u):=x6i Z Z.heap.size rfl ⟨z,lo,hi,c,I,R,M,D⟩ _;have aj:=O (x7k ⟨z,lo,hi,c,I,R,M,D⟩ (vt:=.slice l I.length T) rfl)
   have ae:Hid (∀o gg f w8,w8.ownsRow w.heap.size 60 8 (.slice (some ⟨gg,0,none⟩) (k+1+1) f) (k+1+1) (rcells ps++x0C (⟨z,lo,hi,c,I,R,M,D⟩,.slice l I.length T))->(Z.alloc o).grownBy w8 (Value.slice A (k+1) H).ownBlock->((Value.slice A (k+1) H).ownBlock=some gg\/gg=Z.heap.size+1)->Spst w w1 w8 v4 (.slice (some ⟨gg,0,none⟩) (k+1+1) f) (xs++ys) (ps++[(⟨z,lo,hi,c,I,R,M,D⟩,.slice l I.length T)])):=fun o gg f w8 h1 h2 h3=>by
    have h:=S.more (r:=⟨z,lo,hi,c,I,R,M,D⟩) bN (gg:=gg) (cap:=f) (by rw[G];exact h1) h2 h3;rw[G]at h;exact h
   have cU:=S.bel.size;clear K5 t Y am ab aD S bN bm U aZ bh bM;go_wp2_with(at_builtin;refine wpList_append_lies _ rfl (.tmp 29) (.tmp 31) 22 rfl w.heap.size 60 i1 (.agg #[.int .i64 0,.int .i64 0,.int .i64 0,.int .i64 0,.slice none 0 0,.string ⟨#[]⟩,.string ⟨#[]⟩,.float .f64 0]) 8 96 underlying22 cf cJ cK cL rfl e8R _ _ _ rfl (V ba _) ⟨Z.heap.size,0,none⟩ 1 1 (x0C (⟨z,lo,hi,c,I,R,M,D⟩,.slice l I.length T)) rfl rfl (V ar) (V aj) f6J T7X f6J P8P (Z.heap.size+1) (by simp) ?_);intro gg f w8 aS bH aB cS;have bD:=V ae _ gg f w8 aS bH aB
   have aM:f<=9223372036854775807:=by
    rcases aS.2 with⟨h0,_⟩ | ⟨_,_,_,h0,_,_,_,h1,_⟩
    ·cases h0
    ·obtain⟨_,_,e3⟩:=Value.slice.inj h0;rw[e3];unfold maxLen at h1;omega
   have bV:=O bD;clear ba ar aj ae aS bH aB bD s0 s1 s2 s3 s4 s5 s6 s7 y4 f4 z4;go_wp2
   go_roundw
   case rel=>exact⟨k+1,ps++[(⟨z,lo,hi,c,I,R,M,D⟩,.slice l I.length T)],g2C,f6J,by rw[List.map_append,aP,bX];rfl,by rw[List.length_append,G];rfl,⟨_,_,rfl,aM⟩,by rw[bt];exact V bV⟩
   case measure=>exact g7W
  ·obtain rfl:k=fs.length:=f6J;rw[List.take_of_length_le (l0r _)]at K aP;have bQ:=V aH fs.length;rw[List.take_of_length_le (l0r _)]at bQ;have KB:=O (y5d _ wr u6 _ K.rng f6J (V aA));unfold y7f at KB;have HS:=O K;obtain⟨ro,cZ,cD,_,_⟩:=K.rng.sr.shape;subst cD;clear K aw bp L aH aA;go_wp2_with fail;refine(V KB).mono ?_;rintro e9 w9 ⟨a,m,rfl,p1,p2,hT,bI⟩;obtain⟨F1,F2,F3,F4,F5⟩:=(V HS).fin bI hT;have y0:=cell_of (j:=0) F1 (by show 0<2;exact f6J);have y1:=cell_of (j:=1) F1 (by show 1<2;exact f6J);have f0:=fun j=>x0d (j:=j) F1;have aX:=O F2;have HF:SpkB w fs (.returned (.agg #[.pointer (some a),.slice A (fs.length+1) H])) _:=⟨a,m,_,ps,rfl,p1,p2,F3,F4,aP,F5⟩;have aY:=O HF;clear KB hT bI F1 F2 F3 F4 F5 HF HS p1 p2;go_wp2;have X:=V aX;have bG:=V aY;clear aX aY y0 y1 f0;generalize(w9.setCell ⟨w.heap.size,0,none⟩ (.pointer (some a))).setCell ⟨w.heap.size,1,none⟩ (.slice A (fs.length+1) H)=dp at *;have z0:=cell_of (j:=0) X (by show 0<2;exact f6J);have z1:=cell_of (j:=1) X (by show 1<2;exact f6J);refine bodyPost_ret (v:=.agg #[.pointer (some a),.slice A (fs.length+1) H]) (by simp[results,Tryz.results95,go_sem,z0,z1]) rfl bG
open Ti
def TrP(W:World)(B:Nat)(v:Value)(xs:List Tri.Rg):Prop:=∃a m,v=.pointer (some a)/\m.Perm xs/\(m.Pairwise fun x y=>Tri.lo x<=Tri.lo y)/\T4 W B v m 0
def SpP(W:World)(B:Nat)(v vl:Value)(fs:List Rec):Prop:=TrP W B v (Cn.rangesA (fun i _=>(i:Int)) 1 fs)/\∃ps,Rown W B vl ps/\ps.map (·.1)=Cn.none::fs
def CoP(W:World)(B:Nat)(c1 c2:Value)(rs:List Rec):Prop:=∃r1 r2,c1=.map (some r1)/\c2=.map (some r2)/\B<=r1/\B<=r2/\GAt KP W r1 (x3p rs)/\GAt KR W r2 (secC rs)
def MiP(W:World)(B:Nat)(x:Value):Prop:=∃r,x=.map (some r)/\B<=r/\MxAt W r
theorem x6N{W:World}{g o}(h:W.heap[g]?=some o):g<W.heap.size:=by grind
section
variable {W W':World} {B B':Nat} {v vl c1 c2 x:Value} {xs:List Tri.Rg} {fs rs:List Rec}
theorem TrP.below(h:TrP W B v xs)(Y:Bw W W'):TrP W' B v xs:=by
 obtain⟨a,m,e,p,s,t⟩:=h;exact⟨a,m,e,p,s,t.below Y⟩
theorem TrP.lower(h:TrP W B v xs)(Y:B'<=B):TrP W B' v xs:=by
 obtain⟨a,m,e,p,s,t⟩:=h;exact⟨a,m,e,p,s,T4.lower t Y⟩
theorem z0S{w:World}{B B' e C n:Nat}{v us}(h:w.ownsRow B e C v n us)(Y:B'<=B):w.ownsRow B' e C v n us:=by
 refine⟨h.1,?_⟩;rcases h.2 with F | ⟨g,cap,t,N,H,r⟩
 ·exact .inl F
 ·exact .inr ⟨g,cap,t,N,f6J,r⟩
theorem SpP.below(h:SpP W B v vl fs)(Y:Bw W W'):SpP W' B v vl fs:=by
 obtain⟨t,ps,X,e⟩:=h;exact⟨t.below Y,ps,⟨x0y X.1 fun g H=>Y.block g (X.1.lt g H).2,fun p s=>(X.2 p s).below Y⟩,e⟩
theorem SpP.lower(h:SpP W B v vl fs)(Y:B'<=B):SpP W B' v vl fs:=by
 obtain⟨t,ps,X,e⟩:=h;exact⟨t.lower Y,ps,⟨z0S X.1 Y,fun p s=>(X.2 p s).lower Y⟩,e⟩
theorem GAt.below{K:Value->Prop}{r}{c:Value->Option Value}(h:GAt K W r c)(Y:Bw W W'):GAt K W' r c:=by
 obtain⟨A,i,Z,D⟩:=h;exact⟨A,i,by rw[Y.block r (x6N Z)];exact Z,D⟩
theorem CoP.below(h:CoP W B c1 c2 rs)(Y:Bw W W'):CoP W' B c1 c2 rs:=by
 obtain⟨s,r2,P,z,b1,i,a,A⟩:=h;exact⟨s,r2,P,z,b1,i,a.below Y,A.below Y⟩
theorem CoP.lower(h:CoP W B c1 c2 rs)(Y:B'<=B):CoP W B' c1 c2 rs:=by
 obtain⟨s,r2,P,z,b1,i,a,A⟩:=h;exact⟨s,r2,P,z,f6J,f6J,a,A⟩
theorem MiP.below(h:MiP W B x)(Y:Bw W W'):MiP W' B x:=by
 obtain⟨r,e,b,c,g⟩:=h;exact⟨r,e,b,c,g.below Y⟩
theorem MiP.lower(h:MiP W B x)(Y:B'<=B):MiP W B' x:=by
 obtain⟨r,e,b,c⟩:=h;exact⟨r,e,f6J,c⟩
end
structure DataV(W:World)(B:Nat)(rs:List Rec)(t1 t2 t3 t4 t5 a1 l1 a2 l2 a3 l3 a4 l4 a5 l5 c1 c2 x1:Value):Prop where
 p1:TrP W B t1 (Cn.rangesA (fun _ r=>Cn.value r) 1 (Cn.famOf 1 rs))
 p2:TrP W B t2 (Cn.rangesA (fun _ r=>Cn.value r) 1 (Cn.famOf 2 rs))
 p3:TrP W B t3 (Cn.rangesA (fun _ r=>Cn.value r) 1 (Cn.famOf 4 rs))
 p4:TrP W B t4 (Cn.rangesA (fun _ r=>Cn.value r) 1 (Cn.famOf 5 rs))
 p5:TrP W B t5 (Cn.rangesA (fun _ r=>Cn.value r) 1 (Cn.famOf 6 rs))
 q1:SpP W B a1 l1 (Cn.famOf 1 rs)
 q2:SpP W B a2 l2 (Cn.famOf 3 rs)
 q3:SpP W B a3 l3 (Cn.famOf 7 rs)
 q4:SpP W B a4 l4 (Cn.famOf 8 rs)
 q5:SpP W B a5 l5 (Cn.famOf 9 rs)
 co:CoP W B c1 c2 rs
 mi:MiP W B x1
theorem DataV.below{W W' B rs t1 t2 t3 t4 t5 a1 l1 a2 l2 a3 l3 a4 l4 a5 l5 c1 c2 x1}(h:DataV W B rs t1 t2 t3 t4 t5 a1 l1 a2 l2 a3 l3 a4 l4 a5 l5 c1 c2 x1)(Y:Bw W W'):DataV W' B rs t1 t2 t3 t4 t5 a1 l1 a2 l2 a3 l3 a4 l4 a5 l5 c1 c2 x1:=⟨h.p1.below Y,h.p2.below Y,h.p3.below Y,h.p4.below Y,h.p5.below Y,h.q1.below Y,h.q2.below Y,h.q3.below Y,h.q4.below Y,h.q5.below Y,h.co.below Y,h.mi.below Y⟩
def x0n(W:World)(B p:Nat)(rs:List Rec):Prop:=∃t1 t2 t3 t4 t5 a1 l1 a2 l2 a3 l3 a4 l4 a5 l5 c1 c2 x1:Value,W.heap[p]?=some (.cells #[t1,t2,t3,t4,t5,a1,l1,a2,l2,a3,l3,a4,l4,a5,l5,c1,c2,x1] 103 (0,0))/\B<=p/\DataV W B rs t1 t2 t3 t4 t5 a1 l1 a2 l2 a3 l3 a4 l4 a5 l5 c1 c2 x1
theorem x0n.below{W W' B p rs}(h:x0n W B p rs)(Y:Bw W W'):x0n W' B p rs:=by
 obtain⟨N,o,H,M,l,T,u,P,C,f,X,E,U,L,A,c1,c2,d,Z,D,J⟩:=h;exact⟨N,o,H,M,l,T,u,P,C,f,X,E,U,L,A,c1,c2,d,by rw[Y.block p (x6N Z)];exact Z,D,J.below Y⟩
def CmdB(w:World)(rs:List Rec)(e:Ending)(w':World):Prop:=∃p,e=.returned (.pointer (some ⟨p,0,none⟩))/\x0n w' w.heap.size p rs/\Below w.heap.size w w'
theorem y0z v rs w(hg:Glob w)(N:Rcs w v rs)(hc:(Cn.check6 rs).2=0)(aF:∀r∈rs,r.kind≠15->0<=Cn.value r/\Cn.value r<=65535)(h7:∀r∈rs,r.kind=7->r.to.length=2/\0<=r.lo/\r.lo<=1114111)(aW:∀r∈rs,r.kind=15->Sh r.name/\Sh r.other):Calls prog 50 #[v] w (CmdB w rs):=by
 obtain⟨hl,aw,_⟩:=Cn.x0k.1 hc;have am:∀f:Int,f≠10->∀r∈Cn.famOf f rs,r.kind≠15:=fun f hf r X e=>hf (by rw[<- (Cn.x0u.1 X).2,e];exact e8N);have aD:∀f,(Cn.famOf f rs).length<=4096:=fun f=>Nat.le_trans (List.length_filter_le _ _) hl
 have H:∀(i f:Int),Cn.fam i=f->f≠10->f≠0->I64 i->Hid (∀W,Bw w W->Calls prog 94 #[v,.int .i64 i] W (x6p W (Cn.rangesA (fun _ r=>Cn.value r) 1 (Cn.famOf f rs)))):=fun i f e1 z e3 e4 W U=>by
  subst e1;refine y1S v rs i W (hg.on U) (N.below U) e4 (fun r X=>?_) (aD _) (fun m hp hs=>(Cn.y3s (Cn.y2x hc ⟨z,e3⟩) (fun k hk=>?_) hp hs).1)
  ·have:=aF r (Cn.x0u.1 X).1 (am _ z r X);exact⟨aw r (Cn.x0u.1 X).1,am _ z r X,f6J,f6J⟩
  ·exact aF _ (Cn.x0u.1 (List.getElem_mem hk)).1 (am _ z _ (List.getElem_mem hk))
 have ar:∀(i f:Int),Cn.fam i=f->f≠10->f≠0->I64 i->Hid (∀W,Bw w W->Calls prog 95 #[v,.int .i64 i] W (SpkB W (Cn.famOf f rs))):=fun i f e1 z e3 e4 W U=>by
  subst e1;refine x7Z v rs i W (hg.on U) (N.below U) e4 (fun r X=>⟨aw r (Cn.x0u.1 X).1,am _ z r X⟩) (aD _) (fun m hp hs=>(Cn.x8B hc ⟨z,e3⟩ hp hs).1)
 have KC:Hid (∀W,Bw w W->Calls prog 96 #[v] W (CmpB W rs)):=fun W U=>x4a v rs W (N.below U) h7 hl;have KM:Hid (∀W,Bw w W->Calls prog 97 #[v] W (MxtB W)):=fun W U=>x7W v rs W (N.below U) aW;have V1:=H 1 1 e8N e8N e8N ⟨f6J,f6J⟩;have V2:=H 6 2 e8N e8N e8N ⟨f6J,f6J⟩;have V3:=H 9 4 e8N e8N e8N ⟨f6J,f6J⟩;have V4:=H 10 5 e8N e8N e8N ⟨f6J,f6J⟩;have V5:=H 11 6 e8N e8N e8N ⟨f6J,f6J⟩;have P1:=ar 3 1 e8N e8N e8N ⟨f6J,f6J⟩;have P2:=ar 7 3 e8N e8N e8N ⟨f6J,f6J⟩;have P3:=ar 12 7 e8N e8N e8N ⟨f6J,f6J⟩;have P4:=ar 13 8 e8N e8N e8N ⟨f6J,f6J⟩;have P5:=ar 14 9 e8N e8N e8N ⟨f6J,f6J⟩;obtain⟨ao,cap,aY,_,_⟩:=N.shape;subst aY;have a:=O (Below.refl w.heap.size w);go_enter func50,ntmps50;go_wp2_with fail;refine(V V1 _ (V a)).mono ?_;rintro e1 w1 ⟨b1,m1,rfl,u1,u2,u3,aX⟩;have R:=O (bthen (V a) aX);have C:Hid (TrP w1 w.heap.size (.pointer (some b1)) (Cn.rangesA (fun _ r=>Cn.value r) 1 (Cn.famOf 1 rs))):=TrP.lower ⟨_,_,rfl,u1,u2,u3⟩ (V a).size;go_wp2_with fail;refine(V V2 _ (V R)).mono ?_;rintro z w2 ⟨b2,m2,rfl,u1,u2,u3,t⟩;have ay:=O (bthen (V R) t);have A:Hid (TrP w2 w.heap.size (.pointer (some b2)) (Cn.rangesA (fun _ r=>Cn.value r) 1 (Cn.famOf 2 rs))):=TrP.lower ⟨_,_,rfl,u1,u2,u3⟩ (V R).size;replace C:=O ((V C).below t);go_wp2_with fail;refine(V V3 _ (V ay)).mono ?_;rintro e3 w3 ⟨b3,m3,rfl,u1,u2,u3,L⟩;have J:=O (bthen (V ay) L);have Q:Hid (TrP w3 w.heap.size (.pointer (some b3)) (Cn.rangesA (fun _ r=>Cn.value r) 1 (Cn.famOf 4 rs))):=TrP.lower ⟨_,_,rfl,u1,u2,u3⟩ (V ay).size;replace C:=O ((V C).below L);replace A:=O ((V A).below L);go_wp2_with fail;refine(V V4 _ (V J)).mono ?_;rintro e4 w4 ⟨b4,m4,rfl,u1,u2,u3,S⟩;have M:=O (bthen (V J) S);have F:Hid (TrP w4 w.heap.size (.pointer (some b4)) (Cn.rangesA (fun _ r=>Cn.value r) 1 (Cn.famOf 5 rs))):=TrP.lower ⟨_,_,rfl,u1,u2,u3⟩ (V J).size;replace C:=O ((V C).below S);replace A:=O ((V A).below S);replace Q:=O ((V Q).below S);go_wp2_with fail;refine(V V5 _ (V M)).mono ?_;rintro e5 w5 ⟨b5,m5,rfl,u1,u2,u3,Y⟩;have u:=O (bthen (V M) Y);have G:Hid (TrP w5 w.heap.size (.pointer (some b5)) (Cn.rangesA (fun _ r=>Cn.value r) 1 (Cn.famOf 6 rs))):=TrP.lower ⟨_,_,rfl,u1,u2,u3⟩ (V M).size;replace C:=O ((V C).below Y);replace A:=O ((V A).below Y);replace Q:=O ((V Q).below Y);replace F:=O ((V F).below Y);go_wp2_with fail;refine(V P1 _ (V u)).mono ?_;rintro e6 w6 ⟨g1,n1,y1,bw,rfl,u1,u2,u3,u4,u5,s⟩;have b:=O (bthen (V u) s);have K:Hid (SpP w6 w.heap.size (.pointer (some g1)) y1 (Cn.famOf 1 rs)):=SpP.lower ⟨⟨_,_,rfl,u1,u2,u3⟩,_,u4,u5⟩ (V u).size
 obtain⟨aQ,aL,aG,aZ⟩:∃o l c,y1=.slice o l c:=f4w
 subst aZ;replace C:=O ((V C).below s);replace A:=O ((V A).below s);replace Q:=O ((V Q).below s);replace F:=O ((V F).below s);replace G:=O ((V G).below s);go_wp2_with fail;refine(V P2 _ (V b)).mono ?_;rintro e7 w7 ⟨g2,n2,y2,bA,rfl,u1,u2,u3,u4,u5,g⟩;have aA:=O (bthen (V b) g);have y:Hid (SpP w7 w.heap.size (.pointer (some g2)) y2 (Cn.famOf 3 rs)):=SpP.lower ⟨⟨_,_,rfl,u1,u2,u3⟩,_,u4,u5⟩ (V b).size
 obtain⟨aR,aM,aH,ba⟩:∃o l c,y2=.slice o l c:=f4w
 subst ba;replace C:=O ((V C).below g);replace A:=O ((V A).below g);replace Q:=O ((V Q).below g);replace F:=O ((V F).below g);replace G:=O ((V G).below g);replace K:=O ((V K).below g);go_wp2_with fail;refine(V P3 _ (V aA)).mono ?_;rintro e8 w8 ⟨g3,n3,y3,bB,rfl,u1,u2,u3,u4,u5,Z⟩;have P:=O (bthen (V aA) Z);have j:Hid (SpP w8 w.heap.size (.pointer (some g3)) y3 (Cn.famOf 7 rs)):=SpP.lower ⟨⟨_,_,rfl,u1,u2,u3⟩,_,u4,u5⟩ (V aA).size
 obtain⟨aS,aN,aI,be⟩:∃o l c,y3=.slice o l c:=f4w
 subst be;replace C:=O ((V C).below Z);replace A:=O ((V A).below Z);replace Q:=O ((V Q).below Z);replace F:=O ((V F).below Z);replace G:=O ((V G).below Z);replace K:=O ((V K).below Z);replace y:=O ((V y).below Z);go_wp2_with fail;refine(V P4 _ (V P)).mono ?_;rintro e9 w9 ⟨g4,n4,y4,bC,rfl,u1,u2,u3,u4,u5,ae⟩;have aB:=O (bthen (V P) ae);have aj:Hid (SpP w9 w.heap.size (.pointer (some g4)) y4 (Cn.famOf 8 rs)):=SpP.lower ⟨⟨_,_,rfl,u1,u2,u3⟩,_,u4,u5⟩ (V P).size
 obtain⟨aT,aO,aJ,bh⟩:∃o l c,y4=.slice o l c:=f4w
 subst bh;replace C:=O ((V C).below ae);replace A:=O ((V A).below ae);replace Q:=O ((V Q).below ae);replace F:=O ((V F).below ae);replace G:=O ((V G).below ae);replace K:=O ((V K).below ae);replace y:=O ((V y).below ae);replace j:=O ((V j).below ae);go_wp2_with fail;refine(V P5 _ (V aB)).mono ?_;rintro bp bm ⟨g5,n5,y5,bD,rfl,u1,u2,u3,u4,u5,D⟩;have d:=O (bthen (V aB) D);have aq:Hid (SpP bm w.heap.size (.pointer (some g5)) y5 (Cn.famOf 9 rs)):=SpP.lower ⟨⟨_,_,rfl,u1,u2,u3⟩,_,u4,u5⟩ (V aB).size
 obtain⟨aU,aP,aK,bj⟩:∃o l c,y5=.slice o l c:=f4w
 subst bj;replace C:=O ((V C).below D);replace A:=O ((V A).below D);replace Q:=O ((V Q).below D);replace F:=O ((V F).below D);replace G:=O ((V G).below D);replace K:=O ((V K).below D);replace y:=O ((V y).below D);replace j:=O ((V j).below D);replace aj:=O ((V aj).below D);go_wp2_with fail;refine(V KC _ (V d)).mono ?_;rintro bt bn ⟨r1,r2,rfl,u1,u2,u3,u4,I⟩;have T:=O (bthen (V d) I);have aC:Hid (CoP bn w.heap.size (.map (some r1)) (.map (some r2)) rs):=CoP.lower ⟨_,_,rfl,rfl,u1,u2,u3,u4⟩ (V d).size;replace C:=O ((V C).below I);replace A:=O ((V A).below I);replace Q:=O ((V Q).below I);replace F:=O ((V F).below I);replace G:=O ((V G).below I);replace K:=O ((V K).below I);replace y:=O ((V y).below I);replace j:=O ((V j).below I);replace aj:=O ((V aj).below I);replace aq:=O ((V aq).below I);go_wp2_with fail;refine(V KM _ (V T)).mono ?_;rintro bu n ⟨r3,rfl,u1,u2,E⟩;have q:=O (bthen (V T) E);have aV:Hid (MiP n w.heap.size (.map (some r3))):=MiP.lower ⟨_,rfl,u1,u2⟩ (V T).size;replace C:=O ((V C).below E);replace A:=O ((V A).below E);replace Q:=O ((V Q).below E);replace F:=O ((V F).below E);replace G:=O ((V G).below E);replace K:=O ((V K).below E);replace y:=O ((V y).below E);replace j:=O ((V j).below E);replace aj:=O ((V aj).below E);replace aq:=O ((V aq).below E);replace aC:=O ((V aC).below E)
 have HF:Hid (CmdB w rs (.returned (.pointer (some ⟨n.heap.size,0,none⟩))) (n.alloc (.cells #[.pointer (some b1),.pointer (some b2),.pointer (some b3),.pointer (some b4),.pointer (some b5),.pointer (some g1),.slice aQ aL aG,.pointer (some g2),.slice aR aM aH,.pointer (some g3),.slice aS aN aI,.pointer (some g4),.slice aT aO aJ,.pointer (some g5),.slice aU aP aK,.map (some r1),.map (some r2),.map (some r3)] 103))):=by
  have ab:Bw n (n.alloc (.cells #[.pointer (some b1),.pointer (some b2),.pointer (some b3),.pointer (some b4),.pointer (some b5),.pointer (some g1),.slice aQ aL aG,.pointer (some g2),.slice aR aM aH,.pointer (some g3),.slice aS aN aI,.pointer (some g4),.slice aT aO aJ,.pointer (some g5),.slice aU aP aK,.map (some r1),.map (some r2),.map (some r3)] 103)):=(b0r).alloc (l0r _) _;refine⟨_,rfl,⟨_,_,_,_,_,_,_,_,_,_,_,_,_,_,_,_,_,_,?_,(V q).size,(V C).below ab,(V A).below ab,(V Q).below ab,(V F).below ab,(V G).below ab,(V K).below ab,(V y).below ab,(V j).below ab,(V aj).below ab,(V aq).below ab,(V aC).below ab,(V aV).below ab⟩,bthen (V q) ab⟩;show(n.heap.push _)[n.heap.size]?=_;simp
 exact I7o
def CpB(w:World)(rs:List Rec)(e:Ending)(w':World):Prop:=Below w.heap.size w w'/\((¬(Cn.check rs).2=0/\e=.returned (.tuple #[.pointer none,.int .i64 ((Cn.check rs).1:Int),.int .i64 (Cn.check rs).2]))\/((Cn.check rs).2=0/\∃p,e=.returned (.tuple #[.pointer (some ⟨p,0,none⟩),.int .i64 0,.int .i64 0])/\x0n w' w.heap.size p rs))
theorem y0y v rs w(N:Rcs w v rs)(H:Calls prog 49 #[v] w (x3R w (Cn.check rs)))(Q:(Cn.check rs).2=0->∀W,Bw w W->Calls prog 50 #[v] W (CmdB W rs)):Calls prog 22 #[v] w (CpB w rs):=by
 have l:=O H;unfold x3R at l;have Q:=O Q;obtain⟨ao,cap,g,_,_⟩:=N.shape;unfold CpB;by_cases h:(Cn.check rs).2=0
 ·have K:=O (V Q h);have S:=O h;generalize hck:Cn.check rs=q at *;obtain⟨y,A⟩:=q;simp only at h;subst h;subst g;go_enter func22,ntmps22;go_wp2_with fail;refine c0m l fun w1 F=>?_;have j:=O (V K w1 F);have R:=O F;go_wp2_with fail;refine(V j).mono ?_;rintro z r ⟨p,rfl,a,t⟩;have X:=O (bthen (V R) t)
  have G:Hid (x0n r w.heap.size p rs):=by
   obtain⟨i,o,m,M,n,T,u,P,C,f,b,E,U,Y,c,c1,c2,d,Z,D,J⟩:=a;have L:=(V R).size;exact⟨i,o,m,M,n,T,u,P,C,f,b,E,U,Y,c,c1,c2,d,Z,f6J,J.p1.lower L,J.p2.lower L,J.p3.lower L,J.p4.lower L,J.p5.lower L,J.q1.lower L,J.q2.lower L,J.q3.lower L,J.q4.lower L,J.q5.lower L,J.co.lower L,J.mi.lower L⟩
  go_wp2;go_ret3;exact⟨V X,.inr ⟨V S,p,rfl,V G⟩⟩
 ·have S:=O h;generalize hck:Cn.check rs=q at *;obtain⟨y,A⟩:=q;simp only at h;have s:(A != 0)=true:=bne_iff_ne.2 h;subst g;go_enter func22,ntmps22;go_wp2_with fail;refine c0m l fun w1 F=>?_;have R:=O F;go_wp2;go_ret3;exact⟨V R,.inl ⟨V S,rfl⟩⟩
open Ti
namespace Cn
theorem x5n{r a b c d}(h:bare r false a b c d=true):r.n=0:=by
 unfold bare at h;simp only[Bool.and_eq_true,Bool.false_or,decide_eq_true_eq]at h;exact h.1.1.1.1
theorem y1C{r}(h:right r=0)(G:r.kind≠15)(Z:r.kind≠4):0<=r.n/\r.n<=254:=by
 have C:=x0z h
 have E:1<=r.kind/\r.kind<=15:=by
  unfold fam at C;split at C
  ·exact absurd rfl C
  ·omega
 unfold right at h;rw[if_neg C,if_neg G]at h;have I:=x1x h;rw[Bool.and_eq_true]at I;have D:=I.2;by_cases L:r.kind=1\/r.kind=2\/r.kind=11
 ·rw[if_pos L]at D;have:=x5n D;omega
 rw[if_neg L]at D;by_cases u:r.kind=3
 ·rw[if_pos u]at D;exact u9j
 rw[if_neg u,if_neg Z]at D;by_cases K:r.kind=5
 ·rw[if_pos K]at D;exact m0B
 rw[if_neg K]at D;by_cases H:r.kind=13
 ·rw[if_pos H]at D;exact m0B
 rw[if_neg H]at D;by_cases F:r.kind=6
 ·grind
 rw[if_neg F]at D;by_cases A:r.kind=7
 ·rw[if_pos A]at D;exact m0B
 rw[if_neg A]at D;by_cases M:r.kind=8
 ·rw[if_pos M]at D;exact m0B
 rw[if_neg M]at D;by_cases R:r.kind=9
 ·grind
 rw[if_neg R]at D;by_cases J:r.kind=10
 ·grind
 rw[if_neg J]at D;by_cases N:r.kind=12
 ·rw[if_pos N]at D;exact u9j
 rw[if_neg N]at D;exact u9j
theorem x7q{r}(h:right r=0)(G:r.kind≠15):0<=value r/\value r<=65535:=by
 unfold value;split
 ·omega
 ·split
  ·omega
  ·split
   ·omega
   ·rename_i h34
    split
    ·omega
    ·split
     ·omega
     ·have:=y1C h G (fun e=>h34 (.inr e));omega
theorem x8w{b}(h:nameL b=true):b.size=4:=by
 unfold nameL at h;split at h
 ·rename_i a b c d he
  have:=congrArg List.length he;exact W2K
 ·cases h
theorem z0P{r}(h:right r=0)(j:r.kind=15):r.name.size=4/\r.other.size=4:=by
 have C:=x0z h;unfold right at h;rw[if_neg C,if_pos j]at h;obtain⟨_,_,_,Z,D,_⟩:=x1x h;exact⟨x8w Z,x8w D⟩
theorem x2X{c}(h:scalar c=true):0<=c/\c<=1114111:=by
 unfold scalar at h;have:=o0d h;omega
end Cn
theorem y2n v rs w(H:Glob w)(N:Rcs w v rs):Calls prog 22 #[v] w (CpB w rs):=by
 refine y0y v rs w N (z9b v rs w H N) fun A W U=>?_;have q:=(Cn.x1f.1 A).1;obtain⟨_,o,_⟩:=Cn.x0k.1 q;refine y0z v rs W (H.on U) (N.below U) q (fun r X G=>Cn.x7q (o r X) G) (fun r X y=>?_) (fun r X j=>?_)
 ·obtain⟨_,D,J⟩:=Cn.x0E (o r X) y;have F:=(Cn.x0x J).1;have E:=Cn.x2X D;exact⟨f6J,E.1,E.2⟩
 ·obtain⟨Z,D⟩:=Cn.z0P (o r X) j;exact⟨by unfold Sh;exact f6J,by unfold Sh;exact f6J⟩
section
variable {W W':World} {B p:Nat} {v vl c1 c2 x:Value} {xs:List Tri.Rg} {fs rs:List Rec}
theorem TrP.keep(h:TrP W B v xs)(L:W.heap.size<=W'.heap.size)(G:∀k,B<=k->k<W.heap.size->W'.heap[k]?=W.heap[k]?):TrP W' B v xs:=by
 obtain⟨a,m,e,p,s,t⟩:=h;exact⟨a,m,e,p,s,T4.keep t L G⟩
theorem SpP.keep(h:SpP W B v vl fs)(L:W.heap.size<=W'.heap.size)(G:∀k,B<=k->k<W.heap.size->W'.heap[k]?=W.heap[k]?):SpP W' B v vl fs:=by
 obtain⟨t,ps,X,e⟩:=h;exact⟨t.keep L G,ps,⟨x6k X.1 G,fun p s=>⟨(X.2 p s).1,(X.2 p s).2.1,x6k (X.2 p s).2.2 G⟩⟩,e⟩
theorem GAt.keep{K:Value->Prop}{r}{c:Value->Option Value}(h:GAt K W r c)(hr:B<=r)(G:∀k,B<=k->k<W.heap.size->W'.heap[k]?=W.heap[k]?):GAt K W' r c:=by
 obtain⟨A,i,Z,D⟩:=h;exact⟨A,i,by rw[G r hr (x6N Z)];exact Z,D⟩
theorem x0n.keep(h:x0n W B p rs)(L:W.heap.size<=W'.heap.size)(G:∀k,B<=k->k<W.heap.size->W'.heap[k]?=W.heap[k]?):x0n W' B p rs:=by
 obtain⟨N,o,H,M,l,T,u,P,C,f,X,E,U,F,K,c1,c2,d,Z,D,J⟩:=h;refine⟨N,o,H,M,l,T,u,P,C,f,X,E,U,F,K,c1,c2,d,by rw[G p D (x6N Z)];exact Z,D,⟨J.p1.keep L G,J.p2.keep L G,J.p3.keep L G,J.p4.keep L G,J.p5.keep L G,J.q1.keep L G,J.q2.keep L G,J.q3.keep L G,J.q4.keep L G,J.q5.keep L G,?_,?_⟩⟩
 ·obtain⟨s,r2,I,z,b1,i,a,A⟩:=J.co;exact⟨s,r2,I,z,b1,i,a.keep b1 G,A.keep i G⟩
 ·obtain⟨r,e,b,c,g⟩:=J.mi;exact⟨r,e,b,c,g.keep b G⟩
theorem x0n.lower{B'}(h:x0n W B p rs)(L:B'<=B):x0n W B' p rs:=by
 obtain⟨N,o,H,M,l,T,u,P,C,f,X,E,U,A,F,c1,c2,d,Z,D,J⟩:=h;exact⟨N,o,H,M,l,T,u,P,C,f,X,E,U,A,F,c1,c2,d,Z,f6J,J.p1.lower L,J.p2.lower L,J.p3.lower L,J.p4.lower L,J.p5.lower L,J.q1.lower L,J.q2.lower L,J.q3.lower L,J.q4.lower L,J.q5.lower L,J.co.lower L,J.mi.lower L⟩
end
open Ti
namespace Cn
def vget(rs:List Rec)(f c:Int):Int:=match hit rs f c with | some r=>value r | Option.none=>0
def rget(rs:List Rec)(f c:Int):Rec:=match hit rs f c with | some r=>r | Option.none=>none
end Cn
def y7e(w:World)(b:Bool)(e:Ending)(w':World):Prop:=e=.returned (.bool b)/\∃m,w'=w.drewN m
theorem tget{W B t rs}{f}(I:TrP W B t (Cn.rangesA (fun _ r=>Cn.value r) 1 (Cn.famOf f rs)))(q:(Cn.check6 rs).2=0)(C:f≠10/\f≠0) c(A:Fi c):Calls prog 38 #[t,.int .i64 c] W (x1e W (Cn.vget rs f c)):=by
 obtain⟨a,m,e,s,L,M⟩:=I;have o:=(Cn.x0k.1 q).2.1;have N:=Cn.y7a q C (fun r X E=>Cn.x7q (o r X) (fun e=>C.1 (by rw[<- E,e];exact e8M))) s L;have:=get4 t m 0 c W ⟨B,M⟩ A;rw[N.2 c]at this;exact this
theorem x3N{B p rs} c w(F:x0n w B p rs)(q:(Cn.check6 rs).2=0)(I:Rune c):Calls prog 16 #[.pointer (some ⟨p,0,none⟩),.int .i32 c] w (x1e w (Cn.vget rs 1 c)):=by
 obtain⟨N,o,H,M,l,T,u,P,C,f,X,E,U,L,Q,c1,c2,d,Z,D,J⟩:=F;obtain⟨z,t⟩:=I;have K:=O (tget J.p1 q e8N c ⟨f6J,f6J⟩);have x:w.cell? ⟨p,0,none⟩=some N:=cell_of (j:=0) Z (by show 0<18;exact f6J);obtain⟨a,m,e,-⟩:=J.p1;subst e;go_enter func16,ntmps16;exact R3W
theorem x8h{B p rs} c w(F:x0n w B p rs)(q:(Cn.check6 rs).2=0)(I:Rune c):Calls prog 161 #[.pointer (some ⟨p,0,none⟩),.int .i32 c] w (x1e w (Cn.vget rs 2 c)):=by
 obtain⟨N,o,H,M,l,T,u,P,C,f,X,E,U,L,Q,c1,c2,d,Z,D,J⟩:=F;obtain⟨z,t⟩:=I;have K:=O (tget J.p2 q e8N c ⟨f6J,f6J⟩);have x:w.cell? ⟨p,1,none⟩=some o:=cell_of (j:=1) Z (by show 1<18;exact f6J);obtain⟨a,m,e,-⟩:=J.p2;subst e;go_enter func161,ntmps161;exact R3W
theorem y7C{B p rs} c w(F:x0n w B p rs)(q:(Cn.check6 rs).2=0)(I:Rune c):Calls prog 167 #[.pointer (some ⟨p,0,none⟩),.int .i32 c] w (x1e w (Cn.vget rs 4 c)):=by
 obtain⟨N,o,H,M,l,T,u,P,C,f,X,E,U,L,Q,c1,c2,d,Z,D,J⟩:=F;obtain⟨z,t⟩:=I;have K:=O (tget J.p3 q e8N c ⟨f6J,f6J⟩);have x:w.cell? ⟨p,2,none⟩=some H:=cell_of (j:=2) Z (by show 2<18;exact f6J);obtain⟨a,m,e,-⟩:=J.p3;subst e;go_enter func167,ntmps167;exact R3W
theorem y9v{B p rs} c w(F:x0n w B p rs)(q:(Cn.check6 rs).2=0)(I:Rune c):Calls prog 311 #[.pointer (some ⟨p,0,none⟩),.int .i32 c] w (x1e w (Cn.vget rs 5 c)):=by
 obtain⟨N,o,H,M,l,T,u,P,C,f,X,E,U,L,Q,c1,c2,d,Z,D,J⟩:=F;obtain⟨z,t⟩:=I;have K:=O (tget J.p4 q e8N c ⟨f6J,f6J⟩);have x:w.cell? ⟨p,3,none⟩=some M:=cell_of (j:=3) Z (by show 3<18;exact f6J);obtain⟨a,m,e,-⟩:=J.p4;subst e;go_enter func311,ntmps311;exact R3W
theorem y9P{B p rs} c w(F:x0n w B p rs)(q:(Cn.check6 rs).2=0)(I:Rune c):Calls prog 218 #[.pointer (some ⟨p,0,none⟩),.int .i32 c] w (y7e w (Cn.vget rs 6 c != 0)):=by
 obtain⟨N,o,H,M,l,T,u,P,C,f,X,E,U,L,Q,c1,c2,d,Z,D,J⟩:=F;obtain⟨z,t⟩:=I;have K:=O (tget J.p5 q e8N c ⟨f6J,f6J⟩);have x:w.cell? ⟨p,4,none⟩=some l:=cell_of (j:=4) Z (by show 4<18;exact f6J);obtain⟨a,m,e,-⟩:=J.p5;subst e;go_enter func218,ntmps218;exact R3W
namespace Cn
theorem y9C{k f}(h:fam k=f):(f=1->1<=k/\k<=5)/\(f=2->k=6)/\(3<f->k=f+5):=by
 subst h;unfold fam;split
 ·omega
 ·omega
variable {rs:List Rec}
theorem z1z{r}(h:6<=r.kind)(D:r.kind≠11):value r=r.n:=by
 unfold value;rw[if_neg f6J,if_neg f6J,if_neg f6J,if_neg f6J,if_neg D]
theorem z4D(q:(check6 rs).2=0) c:cls rs c=vget rs 2 c:=by
 unfold cls vget
 cases he:hit rs 2 c with
 | none=>rfl
 | some r =>
  have G:=(y9C ((x1M q e8N r).1 he).2.1).2.1 rfl;exact(z1z f6J f6J).symm
end Cn
structure Ovr(w w1 w4 W:World)(ao:Option Addr)(ps:List (Rec×Value))(k:Nat):Prop where
 sz:W.heap.size=w4.heap.size
 bel:Below w.heap.size w W
 far:∀b,w1.heap.size<=b->W.heap[b]?=w4.heap[b]?
 rcd:ps.length=0\/∃g cur,ao=some ⟨g,0,none⟩/\w.heap.size<=g/\g<w1.heap.size/\W.heap[g]?=some (.cells cur 60 (0,0))/\ps.length*8<=cur.size/\∀i,k<=i->i<ps.length->cur.getD (i*8+4) undef=(ps.getD i (Cn.none,undef)).2
 lst:∀q∈ps,q.1.to≠[]->∃gi capi cur,q.2=.slice (some ⟨gi,0,none⟩) q.1.to.length capi/\w.heap.size<=gi/\gi<w1.heap.size/\W.heap[gi]?=some (.cells cur 21 (0,0))/\q.1.to.length<=cur.size
section
variable {w w1 w4 W:World} {ao:Option Addr} {ps:List (Rec×Value)} {cap k:Nat}
theorem Ovr.start(h:Rown w1 w.heap.size (.slice ao ps.length cap) ps)(Y:Bw w w4)(S:Bw w1 w4):Ovr w w1 w4 w4 ao ps 0:=by
 refine⟨rfl,Y,fun k _=>rfl,?_,fun q d y=>?_⟩
 ·rcases h.1.2 with⟨_,U⟩ | ⟨g,A,t,C,H,X,F,I,L,K⟩
  ·exact .inl U
  ·obtain⟨P,_,N⟩:=Value.slice.inj C;have E:g<w1.heap.size:=x6N X;refine .inr ⟨g,t,P,H,E,by rw[S.block g E];exact X,f6J,fun i _ hi=>?_⟩;have e:=x1u ps i 4 hi f6J;have D:(x0C (ps.getD i (Cn.none,undef)))[4]?=some (ps.getD i (Cn.none,undef)).2:=rfl;rw[D,<- K,List.getElem?_take,if_pos f6J,Array.getElem?_toList]at e;rw[Array.getD_eq_getD_getElem?,e];rfl
 ·have o:=h.2 q d;rcases o.row.2 with⟨_,U⟩ | ⟨g,A,t,C,H,X,F,I,L,K⟩
  ·grind
  ·have E:=(o.2.2.lt g (by rw[C];rfl)).2;exact⟨g,A,t,C,H,E,by rw[S.block g E];exact X,f6J⟩
theorem y1I(W:World) a v:(W.setCell a v).heap.size=W.heap.size:=by
 unfold World.setCell;exact f1Z
theorem Ovr.item(h:Ovr w w1 w4 W ao ps k){gi cur}(a:w.heap.size<=gi)(g2:gi<w1.heap.size)(X:W.heap[gi]?=some (.cells cur 21 (0,0))) j v:Ovr w w1 w4 (W.setCell ⟨gi,j,none⟩ v) ao ps k:=by
 refine⟨by rw[y1I];exact h.sz,x0b h.bel a v,fun b Y=>by rw[x0e v f6J];exact h.far b Y,?_,fun q d y=>?_⟩
 ·rcases h.rcd with U | ⟨S,r,e,L,Q,l,I⟩
  ·exact .inl U
  ·refine .inr ⟨S,r,e,L,Q,?_,I⟩;rw[x0e v (fun e=>by subst e;rw[X]at l;simp at l)];exact l
 ·obtain⟨S,A,r,P,z,N,o,F⟩:=h.lst q d y;by_cases H:S=gi
  ·subst H;rw[X]at o;simp only[Option.some.injEq,Obj.cells.injEq,and_true]at o;subst o;exact⟨S,A,_,P,z,N,x0c X v,by rw[Array.size_setIfInBounds];exact F⟩
  ·exact⟨S,A,r,P,z,N,by rw[x0e v H];exact o,F⟩
theorem z0C W g off(q:Rec×Value):(putR W g off q).heap.size=W.heap.size:=by
 unfold putR;simp only[y1I]
theorem Ovr.wipe(h:Ovr w w1 w4 W ao ps k){g}(H:ao=some ⟨g,0,none⟩)(G:k<ps.length)(q:Rec×Value):Ovr w w1 w4 (putR W g (k*8) q) ao ps (k+1):=by
 rcases h.rcd with U | ⟨S,t,e,a,A,X,L,I⟩
 ·omega
 ·rw[H]at e;simp only[Option.some.injEq,Addr.mk.injEq,and_true]at e;subst e;refine⟨by rw[z0C];exact h.sz,x8C h.bel a q,fun b Y=>by rw[x9O q f6J];exact h.far b Y,.inr ⟨g,_,H,a,A,z0B X q,by rw[z0Z];exact L,fun j R d=>?_⟩,fun p s y=>?_⟩
  ·rw[<- I j f6J d];simp only[Array.getD_eq_getD_getElem?];rw[z0Y t (k*8) q f6J,if_neg f6J]
  ·obtain⟨M,C,r,P,z,N,o,F⟩:=h.lst p s y;refine⟨M,C,r,P,z,N,?_,F⟩;rw[x9O q (fun e=>by subst e;rw[X]at o;simp at o)];exact o
end
namespace Cn
def x1j(r:Rec):Bool :=
  if r.kind=1\/r.kind=2\/r.kind=11 then bare r false false false false false
  else if r.kind=3 then bare r false true false false false&&list r.to 1 24
  else if r.kind=4 then bare r true true false false false&&decide (1<=r.n/\r.n<=64)&&list r.to 1 1&&decide (r.to.getD 0 0+r.hi-r.lo<=1114111/\(r.to.getD 0 0+r.hi-r.lo<55296\/57343<r.to.getD 0 0))
  else if r.kind=5 then decide (r.lo=r.hi)&&scalar r.lo&&bare r false true false false false&&list r.to 0 24
  else if r.kind=13 then decide (r.lo=r.hi)&&scalar r.lo&&bare r false true false false false&&list r.to 1 24
  else if r.kind=6 then bare r true false false false false&&decide (1<=r.n/\r.n<=254)
  else if r.kind=7 then decide (r.lo=r.hi)&&scalar r.lo&&bare r false true false false false&&list r.to 2 2
  else if r.kind=8 then decide (r.lo=r.hi)&&scalar r.lo&&bare r false true false false false&&list r.to 1 2
  else if r.kind=9 then bare r true false false false false&&decide (0<=r.n/\r.n<=10)
  else if r.kind=10 then bare r true false false false false&&decide (0<=r.n/\r.n<=5)
  else if r.kind=12 then bare r false false true false false&&nameL r.name
  else bare r false false false false true&&weight r.wt
theorem y6B{r}(h:fam r.kind=0):right r=60:=by unfold right;rw[if_pos h]
theorem z4d{r}(h:r.kind=15):right r=ansG (decide (r.lo=0)&&decide (r.hi=0)&&bare r false false true true true&&nameL r.name&&nameL r.other&&decide (r.name≠r.other)&&weight r.wt):=by
 unfold right ansG;rw[if_neg s8h,if_pos h];simp[and_assoc]
theorem y6A{r}(U:fam r.kind≠0)(j:r.kind≠15):right r=ansG (decide (0<=r.lo/\r.lo<=r.hi/\r.hi<=1114111)&&x1j r):=by
 unfold right;rw[if_neg U,if_neg j];rfl
theorem y8C{k}(h:fam k≠0):1<=k/\k<=15:=by
 unfold fam at h;split at h
 ·exact absurd rfl h
 ·omega
end Cn
theorem q0X{r}(h:r.kind=1):Cn.x1j r=(Cn.bare r false false false false false):=V6h
theorem q0Y{r}(h:r.kind=2):Cn.x1j r=(Cn.bare r false false false false false):=V6h
theorem q0Z{r}(h:r.kind=3):Cn.x1j r=(Cn.bare r false true false false false&&Cn.list r.to 1 24):=V6h
theorem q1a{r}(h:r.kind=4):Cn.x1j r=(Cn.bare r true true false false false&&decide (1<=r.n/\r.n<=64)&&Cn.list r.to 1 1&&decide (r.to.getD 0 0+r.hi-r.lo<=1114111/\(r.to.getD 0 0+r.hi-r.lo<55296\/57343<r.to.getD 0 0))):=V6h
theorem q1b{r}(h:r.kind=5):Cn.x1j r=((decide (r.lo=r.hi)&&Cn.scalar r.lo)&&Cn.bare r false true false false false&&Cn.list r.to 0 24):=V6h
theorem q1c{r}(h:r.kind=6):Cn.x1j r=(Cn.bare r true false false false false&&decide (1<=r.n/\r.n<=254)):=V6h
theorem q1d{r}(h:r.kind=7):Cn.x1j r=((decide (r.lo=r.hi)&&Cn.scalar r.lo)&&Cn.bare r false true false false false&&Cn.list r.to 2 2):=V6h
theorem q1e{r}(h:r.kind=8):Cn.x1j r=((decide (r.lo=r.hi)&&Cn.scalar r.lo)&&Cn.bare r false true false false false&&Cn.list r.to 1 2):=V6h
theorem q1f{r}(h:r.kind=9):Cn.x1j r=(Cn.bare r true false false false false&&decide (0<=r.n/\r.n<=10)):=V6h
theorem z8i{r}(h:r.kind=10):Cn.x1j r=(Cn.bare r true false false false false&&decide (0<=r.n/\r.n<=5)):=V6h
theorem z8j{r}(h:r.kind=11):Cn.x1j r=(Cn.bare r false false false false false):=V6h
theorem z8k{r}(h:r.kind=12):Cn.x1j r=(Cn.bare r false false true false false&&Cn.nameL r.name):=V6h
theorem z8l{r}(h:r.kind=13):Cn.x1j r=((decide (r.lo=r.hi)&&Cn.scalar r.lo)&&Cn.bare r false true false false false&&Cn.list r.to 1 24):=V6h
theorem z8m{r}(h:r.kind=14):Cn.x1j r=(Cn.bare r false false false false true&&Cn.weight r.wt):=V6h
theorem y1A:z4N:=by
 intro r g w C K;obtain⟨ao,c,rfl,u,_⟩:=K.shape;unfold recV;by_cases U:Cn.fam r.kind=0
 ·rw[Cn.y6B U];exact z7W r.kind r.lo r.hi r.n ao r.to.length c r.name r.other r.wt w C.kind U
 ·have F:Hid (∀W s M N Q H,Bw w W->Calls prog 122 #[recV r (.slice ao r.to.length c),.bool s,.bool M,.bool N,.bool Q,.bool H] W (x0g W (Cn.bare r s M N Q H))):=fun W s M N Q H h=>y3c r _ s M N Q H W (K.below h);unfold recV at F;have KN:Hid (∀W,Calls prog 123 #[.string r.name] W fun e J=>e=.returned (.bool (Cn.nameL r.name))/\J=W):=fun W=>x5y r.name W;have E:Hid (∀W,Calls prog 124 #[.float .f64 r.wt] W fun e J=>e=.returned (.bool (Cn.weight r.wt))/\J=W):=fun W=>x9T r.wt W C.wt;by_cases j:r.kind=15
  ·rw[Cn.z4d j];have l:Hid (∀W,Calls prog 123 #[.string r.other] W fun e J=>e=.returned (.bool (Cn.nameL r.other))/\J=W):=fun W=>x5y r.other W;rw[j]at F ⊢;exact rw_15 r.lo r.hi r.n ao r.to.length c r.name r.other r.wt w C.lo C.hi _ _ _ _ (fun W h=>V F W false false true true true h) KN l E
  ·have KL:∀a b:Nat,Hid (∀W,Bw w W->Calls prog 126 #[.slice ao r.to.length c,.int .i64 a,.int .i64 b] W fun e J=>e=.returned (.bool (Cn.list r.to a b))/\J=W):=fun a b W h=>y3e _ r.to a b W (K.below h) C.len;have G:=Cn.y8C U;rw[Cn.y6A U j];have hd:decide (0<=r.lo/\r.lo<=r.hi/\r.hi<=1114111)=decide (0<=r.lo/\r.lo<=r.hi/\r.hi<=1114111):=rfl;have A:∀{a b:Bool},a=b->ansG (decide (0<=r.lo/\r.lo<=r.hi/\r.hi<=1114111)&&a)=ansG (decide (0<=r.lo/\r.lo<=r.hi/\r.hi<=1114111)&&b):=fun h=>(by rw[h]);have L:Hid (decide (0<=r.lo/\r.lo<=r.hi/\r.hi<=1114111)=true->(decide (r.lo=r.hi)&&Cn.scalar r.lo)=(decide (r.lo=r.hi)&&Cn.scalar r.lo)):=fun _=>rfl;have D:(r.kind=1\/r.kind=2)\/(r.kind=11\/r.kind=3)\/(r.kind=5\/r.kind=13)\/(r.kind=6\/r.kind=9)\/(r.kind=7\/r.kind=8)\/(r.kind=12\/r.kind=14)\/(r.kind=4)\/(r.kind=10):=f6J;rcases D with hk1 | hk1 | hk1 | hk1 | hk1 | hk1 | hk1 | hk1
   ·exact rwg_a r.kind r.lo r.hi r.n hk1 ao r.to.length c r.name r.other r.wt w C.lo C.hi _ _ _ hd L (Cn.bare r) F (fun e=>A (q0X e)) (fun e=>A (q0Y e))
   ·exact rwg_b r.kind r.lo r.hi r.n hk1 ao r.to.length c r.name r.other r.wt w C.lo C.hi _ _ _ hd L (Cn.bare r) F _ (KL 1 24) (fun e=>A (z8j e)) (fun e=>A (q0Z e))
   ·exact rwg_c r.kind r.lo r.hi r.n hk1 ao r.to.length c r.name r.other r.wt w C.lo C.hi _ _ _ hd L (Cn.bare r) F _ (KL 0 24) _ (KL 1 24) (fun e=>A (q1b e)) (fun e=>A (z8l e))
   ·exact rwg_f r.kind r.lo r.hi r.n hk1 ao r.to.length c r.name r.other r.wt w C.lo C.hi C.n _ _ _ hd L (Cn.bare r) F (decide (1<=r.n/\r.n<=254)) (fun h=>o0d h) (fun h=>g2b) (decide (0<=r.n/\r.n<=10)) (fun h=>o0d h) (fun h=>g2b) (fun e=>A (q1c e)) (fun e=>A (q1f e))
   ·exact rwg_d r.kind r.lo r.hi r.n hk1 ao r.to.length c r.name r.other r.wt w C.lo C.hi _ _ _ hd L (Cn.bare r) F _ (KL 2 2) _ (KL 1 2) (fun e=>A (q1d e)) (fun e=>A (q1e e))
   ·exact rwg_h r.kind r.lo r.hi r.n hk1 ao r.to.length c r.name r.other r.wt w C.lo C.hi _ _ _ hd L (Cn.bare r) F _ KN _ E (fun e=>A (z8k e)) (fun e=>A (z8m e))
   ·have X:Hid (Cn.list r.to 1 1=true->Rune (r.to.getD 0 0)/\∃b P,ao=some ⟨b,P,none⟩/\r.to.length=1/\r.to.length<=c/\∀W,Bw w W->W.cell? ⟨b,P,none⟩=some (.int .i32 (r.to.getD 0 0))):=fun h=>by
     unfold Cn.list at h;rw[Bool.and_eq_true]at h;have Z:=o0d h.1;have S:r.to.length=1:=f6J;obtain⟨b,P,cap,T,c1,c2,I⟩:=K.place f6J;simp only[Value.slice.injEq,true_and]at T;obtain⟨rfl,rfl⟩:=T;refine⟨x0V K f6J,b,P,rfl,S,u,fun W Y=>?_⟩;have R:=I 0 f6J;rw[Nat.add_zero]at R;rw[Y.cell (x0a R)];exact R
    exact rwg_e r.kind r.lo r.hi r.n hk1 ao r.to.length c r.name r.other r.wt w C.lo C.hi C.n _ _ _ hd L (Cn.bare r) F _ (KL 1 1) (r.to.getD 0 0) X (decide (r.to.getD 0 0+r.hi-r.lo<=1114111/\(r.to.getD 0 0+r.hi-r.lo<55296\/57343<r.to.getD 0 0))) (fun h=>o0d h) (fun h=>g2b) (decide (1<=r.n/\r.n<=64)) (fun h=>o0d h) (fun h=>g2b) (fun e=>A (q1a e))
   ·exact rwg_g r.kind r.lo r.hi r.n hk1 ao r.to.length c r.name r.other r.wt w C.lo C.hi C.n _ _ _ hd L (Cn.bare r) F (decide (0<=r.n/\r.n<=5)) (fun h=>o0d h) (fun h=>g2b) (fun e=>A (z8i e))
theorem z0I:y1W:=x9Q y1A y1y
theorem z0J:y7k:=y1x z0I x9S
namespace Cn
theorem x4G{l}(h:(check l).2=0):(check l).1=0:=by
 unfold check at h ⊢;by_cases Z:(check6 l).2≠0
 ·grind
 ·rw[if_neg Z]at h ⊢
  cases hx:x0U l 0 l with
  | some x=>rw[hx]at h;exact absurd h (x3I _ _ _ hx)
  | none=>grind
end Cn
theorem y3a{w1 B v}{ps:List (Rec×Value)}{rs}(hr:Rown w1 B v ps)(s:ps.map (·.1)=rs)(S:rs.length<=1000000000)(C:∀r∈rs,RecFit r):Rcs w1 v rs:=by
 subst s;exact hr.rcs t2Y fun p f=>C _ (List.mem_map.2 ⟨p,f,rfl⟩)
theorem Rown.lower9{w B B' v}{ps:List (Rec×Value)}(h:Rown w B v ps)(Y:B'<=B):Rown w B' v ps:=⟨z0S h.1 Y,fun p s=>(h.2 p s).lower Y⟩
def z8O(w:World)(rs:List Rec)(e:Ending)(w':World):Prop:=Below w.heap.size w w'/\((¬(Cn.check rs).2=0/\e=.returned (.tuple #[.pointer none,.slice none 0 0,.int .i64 0]))\/((Cn.check rs).2=0/\∃p v ps,e=.returned (.tuple #[.pointer (some ⟨p,0,none⟩),v,.int .i64 1])/\x0n w' w.heap.size p rs/\Rown w' w.heap.size v ps/\ps.map (·.1)=rs))
theorem x6f v rs0 w(hg:Glob w)(N:Rcs w v rs0):Calls prog 8 #[v] w (z8O w (rs0.take 150)):=by
 have aN:=N.1;obtain⟨ao,cap,rfl,aS,aT⟩:=N.shape;obtain⟨n,hn⟩:∃n,n=min rs0.length 150:=⟨_,rfl⟩;have aO:min (rs0.length:Int) 150=(n:Int):=f6J;have aH:n<=rs0.length:=f6J;have aY:n<=150:=f6J;have s:rs0.take 150=rs0.take n:=(by rw[hn,List.take_eq_take_min,Nat.min_comm]);have hH:=N.head aH;rw[s];have K:∀r∈rs0.take n,RecFit r:=fun r hr=>N.2.1 r (List.mem_of_mem_take hr);have aJ:(rs0.take n).length=n:=U3t;clear s hn N;generalize rs0.take n=rs,rs0.length=L at *;have K1:=O (x4o _ _ w hH);have l:=O K;have P:=O aJ;have HG:=O hg;go_enter func8,ntmps8;go_wp2_with fail;refine(V K1).mono ?_;rintro e1 w1 ⟨v1,A,rfl,p1,r1,b1⟩;have R1:=y3a r1 p1 (by rw[V P];exact f6J) (V l);have K2:=O (x4o _ _ w1 R1);obtain⟨a1,aB,d,_,aL⟩:=R1.shape;rw[V P]at d;have D:A.length=n:=(by have:=congrArg List.length p1;rw[List.length_map,V P]at this;exact this);subst d;have S:=O R1;have Y:=O r1;have R:=O b1;have ab:=O D;go_wp2_with fail;refine(V K2).mono ?_;rintro e2 w2 ⟨v2,aK,rfl,p2,r2,b2⟩;have z:=y3a r2 p2 (by rw[V P];exact f6J) (V l);have K3:=O (z0J _ _ w2 z);obtain⟨a2,aC,aq,_,aM⟩:=z.shape;rw[V P]at aq;subst aq;have i:=O z;have ar:=O r2;have X:=O b2;go_wp2_with fail;refine c0m K3 fun w3 b3=>?_;have J:=O b3;have K4:=O (y2n _ rs w3 (((V HG).on (V R)).on (bthen (V X) b3)) ((V S).below (bthen (V X) b3)));go_wp2_with fail;refine(V K4).mono ?_;rintro e4 w4 ⟨b4,h4⟩;have M:=O b4;have K5:=O (y3k _ _ rs w4 ((V S).below (bthen (bthen (V X) (V J)) b4)) ((V i).below (bthen (V J) b4)));rcases h4 with⟨y,rfl⟩ | ⟨U,p,rfl,hD⟩
 ·have H:=O y;have hq:((Cn.check rs).2 != 0)=true:=bne_iff_ne.2 y;generalize hck:Cn.check rs=q at *;have E:=O hck;obtain⟨q1,q2⟩:=q;simp only at hq;go_wp2_with(go_at_call 23;refine(V K5).mono ?_;rintro e5 G ⟨rfl,T⟩;have u:=O T;clear K5 T);go_ret3;exact⟨bthen (bthen (V R) (bthen (bthen (V X) (V J)) (V M))) (V u),.inl ⟨by rw[V E];exact V H,rfl⟩⟩
 ·have hz:=Cn.x4G U;have aR:=O U;have HD:=O hD;generalize hck:Cn.check rs=q at *;have E:=O hck;obtain⟨q1,q2⟩:=q;simp only at U hz;subst U hz;go_wp2_with(go_at_call 23;refine(V K5).mono ?_;rintro e5 G ⟨rfl,T⟩;have u:=O T;clear K5 T);have C:=O (bthen (bthen (bthen (V X) (V J)) (V M)) (V u));have aw:=O (Ovr.start (w:=w) (w1:=w1) (w4:=G) (cap:=aB) (ao:=a1) (ps:=A) (by rw[V ab];exact V Y) (bthen (V R) (V C)) (V C))
  have I:Hid (∀k,k<n->∃ak ck,(A.getD k (Cn.none,undef)).2=.slice ak (A.getD k (Cn.none,undef)).1.to.length ck/\(A.getD k (Cn.none,undef)).1.to.length<=140737488355328/\ck<=9223372036854775807/\(A.getD k (Cn.none,undef)).1.to.length<=ck):=fun k hk=>by
   have o:A.getD k (Cn.none,undef)∈A:=by
    have:=V ab;simp[List.getD,(f6J:k<A.length)]
   obtain⟨ak,ck,e,h1,h2⟩:=((V Y).2 _ o).sk.shape;exact⟨ak,ck,e,((V Y).2 _ o).sk.len,h2,h1⟩
  have am:Hid (∀W k,Ovr w w1 G W a1 A k->z8O w rs (.returned (.tuple #[.pointer (some ⟨p,0,none⟩),.slice a2 n aC,.int .i64 1])) W):=fun W k hO=>by
   have aP:=(V X).size;have aQ:=(bthen (V X) (V J)).size;have bh:=(V R).size;refine⟨hO.bel,.inr ⟨by rw[V E],p,_,aK,rfl,?_,?_,p2⟩⟩
   ·exact(((V HD).below (V u)).keep (by rw[hO.sz];exact l0r _) (fun b hb _=>hO.far b f6J)).lower f6J
   ·exact(((V ar).on7 (bthen (bthen (V J) (V M)) (V u))).far7 (fun b hb _=>hO.far b hb)).lower9 f6J
  go_loopw[12,13] (fun ii _ wr=>∃k:Nat,ii=.int .i64 k/\k<=n/\Ovr w w1 G wr a1 A k) (fun ii _ _=>n-(intOf ii).toNat)
  case atStart=>exact⟨0,rfl,f6J,V aw⟩
  case round =>
   obtain⟨k,rfl,hk,hO⟩:=hrel;by_cases aG:k<n
   ·have D:=V ab;obtain⟨ak,ck,aI,aZ,ba,be⟩:=V I k aG;have o:A.getD k (Cn.none,undef)∈A:=by simp[List.getD,(f6J:k<A.length)]
    obtain⟨g,aF⟩:∃g,a1=some ⟨g,0,none⟩:=by
     rcases hO.rcd with U | ⟨g,t,e,_⟩
     ·omega
     ·exact⟨g,e⟩
    subst aF
    have Z:Hid (∀W,Ovr w w1 G W (some ⟨g,0,none⟩) A k->W.cell? ⟨g,k*8+4,none⟩=some (A.getD k (Cn.none,undef)).2/\∃t,W.heap[g]?=some (.cells t 60 (0,0))/\k*8+8<=t.size):=fun W h=>by
     rcases h.rcd with U | ⟨g',t,e,_,_,hh,hs,hc⟩
     ·omega
     ·simp only[Option.some.injEq,Addr.mk.injEq,and_true]at e;subst e;exact⟨by rw[cell_of (j:=k*8+4) hh f6J,hc k (l0r _) f6J],t,hh,f6J⟩
    have F:Hid (∀W,Ovr w w1 G W (some ⟨g,0,none⟩) A k->(A.getD k (Cn.none,undef)).1.to≠[]->∃gi aj t,(A.getD k (Cn.none,undef)).2=.slice (some ⟨gi,0,none⟩) (A.getD k (Cn.none,undef)).1.to.length aj/\w.heap.size<=gi/\gi<w1.heap.size/\W.heap[gi]?=some (.cells t 21 (0,0))/\(A.getD k (Cn.none,undef)).1.to.length<=t.size):=fun W h=>h.lst _ o;have aA:Hid (∀W,Ovr w w1 G W (some ⟨g,0,none⟩) A k->Ovr w w1 G (putR W g (k*8) (Cn.none,.slice none 0 0)) (some ⟨g,0,none⟩) A (k+1)):=fun W h=>h.wipe rfl f6J _;have HO:=O hO;rw[aI]at Z F;generalize hql:(A.getD k (Cn.none,undef)).1.to.length=tl at *;have ay:=O hql;go_upto_block 2 with fail;go_cut[13] (fun _ wc=>Ovr w w1 G wc (some ⟨g,0,none⟩) A k)
    case first =>
     go_wp2;go_loopw[13] (fun jj wd=>∃j:Nat,jj=.int .i64 j/\j<=tl/\Ovr w w1 G wd (some ⟨g,0,none⟩) A k) (fun jj _=>tl-(intOf jj).toNat)
     case atStart=>exact⟨0,rfl,f6J,V HO⟩
     case round =>
      obtain⟨j,rfl,hj,ae⟩:=hrel;obtain⟨aD,-⟩:=V Z wr ae;by_cases aX:j<tl
      ·obtain⟨gi,aj,t,e,g1,g2,hh,f⟩:=V F wr ae (fun e=>by have:=V ay;rw[e]at this;simp at this;exact f6J);obtain⟨e1,e2,e3⟩:=Value.slice.inj e;subst e1 e3;have aU:=cell_of (j:=j) hh f6J;have aW:=x0d (j:=j) hh;have Q:=O (ae.item g1 g2 hh j (.int .i32 65));generalize t.getD j undef=uj at *;go_wp2
       go_roundw
       case rel=>exact⟨j+1,g2A,f6J,V Q⟩
       case measure=>exact g7T
      ·have c:=O ae;go_wp2
       go_meet
       case rel=>exact V c
    case rest =>
     obtain⟨aD,t,hh,f⟩:=V Z wc hcut;have HW:=O (V aA wc hcut);have y0:=cell_of (j:=k*8) hh f6J;have y1:=cell_of (j:=k*8+1) hh f6J;have y2:=cell_of (j:=k*8+2) hh f6J;have y3:=cell_of (j:=k*8+3) hh f6J;have y5:=cell_of (j:=k*8+5) hh f6J;have y6:=cell_of (j:=k*8+6) hh f6J;have y7:=cell_of (j:=k*8+7) hh f6J;have fz:=fun j=>x0d (j:=j) hh;have aV:∀W a m,(store a (.float .f64 0) m).run prog W=stored prog W a (.float .f64 0) m:=fun W a m=>run_store prog W a _ m rfl;generalize t.getD (k*8) undef=uy0,t.getD (k*8+1) undef=uy1,t.getD (k*8+2) undef=uy2,t.getD (k*8+3) undef=uy3,t.getD (k*8+5) undef=uy5,t.getD (k*8+6) undef=uy6,t.getD (k*8+7) undef=bj at *;go_wp2;exact⟨⟨k+1,g2A,f6J,V HW⟩,by simp[intOf];exact f6J⟩
   ·obtain rfl:k=n:=f6J;have HF:=O (V am wr k hO);go_wp2;go_ret3;exact V HF
namespace Cn
def mk3(k lo hi:Int):Rec:=⟨k,lo,hi,0,[],⟨#[]⟩,⟨#[]⟩,0⟩
def x2d:List Rec:=[mk3 1 97 122,mk3 1 48 57,mk3 1 45 46,⟨4,65,90,1,[97],⟨#[]⟩,⟨#[]⟩,0⟩,mk3 1 224 224,mk3 1 768 768,⟨7,224,224,0,[97,768],⟨#[]⟩,⟨#[]⟩,0⟩,⟨6,768,768,230,[],⟨#[]⟩,⟨#[]⟩,0⟩,mk3 11 768 768,⟨14,224,224,0,[],⟨#[]⟩,⟨#[]⟩,4591870180066957722⟩]
theorem y1b:check x2d=(0,0):=M3j
end Cn
def lpsA:List (Rec×Value):=[(Cn.mk3 1 97 122,.slice none 0 0),(Cn.mk3 1 48 57,.slice none 0 0),(Cn.mk3 1 45 46,.slice none 0 0)]
def lpsB(n:Nat):List (Rec×Value):=[(⟨4,65,90,1,[97],⟨#[]⟩,⟨#[]⟩,0⟩,.slice (some ⟨n,0,none⟩) 1 1),(Cn.mk3 1 224 224,.slice none 0 0),(Cn.mk3 1 768 768,.slice none 0 0)]
def lpsC(n:Nat):List (Rec×Value):=[(⟨7,224,224,0,[97,768],⟨#[]⟩,⟨#[]⟩,0⟩,.slice (some ⟨n,0,none⟩) 2 2),(⟨6,768,768,230,[],⟨#[]⟩,⟨#[]⟩,0⟩,.slice none 0 0),(Cn.mk3 11 768 768,.slice none 0 0),(⟨14,224,224,0,[],⟨#[]⟩,⟨#[]⟩,4591870180066957722⟩,.slice none 0 0)]
theorem x9L(w:World) B(m:B<=w.heap.size) c(I:-2147483648<=c/\c<=2147483647):Ok .i32 21 (w.alloc (.cells #[.int .i32 c] 21)) B (.slice (some ⟨w.heap.size,0,none⟩) 1 1) [c]:=by
 refine⟨fun z u=>by simp at u;subst u;exact x0O I,M7K,M7K,.inr ⟨w.heap.size,1,#[.int .i32 c],rfl,m,?_,l0r _,by unfold maxLen;exact M7K,M7K,M7K⟩⟩;exact R0n
theorem z7l(W:World) B(m:B<=W.heap.size)(ps:List (Rec×Value)) n(F:ps.length=n)(L:n<=100):(W.alloc (.cells (rcells ps).toArray 60)).ownsRow B 60 8 (.slice (some ⟨W.heap.size,0,none⟩) n n) n (rcells ps):=by
 subst F;refine⟨x1i ps,.inr ⟨W.heap.size,ps.length,(rcells ps).toArray,rfl,m,?_,l0r _,T7W,by rw[List.size_toArray,x1i],?_⟩⟩
 ·show(W.heap.push _)[W.heap.size]?=_;simp
 ·exact List.take_of_length_le (by rw[x1i];exact l0r _)
theorem y4p(W:World)(ps:List (Rec×Value)):∀j u,(rcells ps)[j]?=some u->(W.alloc (.cells (rcells ps).toArray 60)).cell? ((⟨W.heap.size,0,none⟩:Addr).add j)=some u:=by
 intro j u h
 have X:(W.alloc (.cells (rcells ps).toArray 60)).heap[W.heap.size]?=some (.cells (rcells ps).toArray 60 (0,0)):=by
  show(W.heap.push _)[W.heap.size]?=_;simp
 rw[addr_add,Nat.zero_add];have R:j<(rcells ps).length:=(List.getElem?_eq_some_iff.1 h).1;rw[cell_of (j:=j) X s4P];rw[Array.getD_eq_getD_getElem?,List.getElem?_toArray,h];rfl
theorem x2g(ps A:List (Rec×Value)):rcells ps++rcells A=rcells (ps++A):=by unfold rcells;rw[List.flatMap_append]
theorem y1F{W1 W2 B v v'}{ps A:List (Rec×Value)}(l:Rown W1 B v ps)(d:∀q∈A,Ok .i32 21 W1 B q.2 q.1.to)(Q:W2.ownsRow B 60 8 v' (ps.length+A.length) (rcells ps++rcells A))(H:W1.grownBy W2 v.ownBlock):Rown W2 B v' (ps++A):=by
 refine⟨by rw[List.length_append,<- x2g];exact Q,fun p hp=>?_⟩;have S:∀p:Rec×Value,Ok .i32 21 W1 B p.2 p.1.to->Ok .i32 21 W2 B p.2 p.1.to:=fun p n=>n.keep fun g h=>H.block g (n.2.2.lt g h).2 (fun e=>x0Q n.2.2 l.1 e8M h e.symm);rcases List.mem_append.1 hp with hp | hp
 ·exact S p (l.2 p hp)
 ·exact S p (d p hp)
theorem z0l(ps:List (Rec×Value))(h:∀p∈ps,p.2.oneCell'=true):∀u∈rcells ps,u.oneCell'=true:=by
 intro u d;obtain⟨p,s,d⟩:=List.mem_flatMap.1 d;exact x7k p.1 (h p s) u d
theorem Rown.alloc9{W B v}{ps:List (Rec×Value)}(h:Rown W B v ps) o:Rown (W.alloc o) B v ps:=h.on7 ((b0r).alloc (l0r _) o)
theorem y5X w:Calls prog 24 #[] w (x6r w Cn.x2d):=by
 obtain⟨i1,hj,Q,J,S⟩:=info_parts Tryz.info60;obtain⟨a,N⟩:∃a,w.alloc (.cells (rcells lpsA).toArray 60)=a:=⟨_,rfl⟩
 have hA:Rown a w.heap.size (.slice (some ⟨w.heap.size,0,none⟩) 3 3) lpsA:=by
  rw[<- N];refine⟨z7l w w.heap.size (l0r _) lpsA 3 rfl f6J,fun p s=>?_⟩;simp only[lpsA,List.mem_cons,List.mem_nil_iff,or_false]at s;rcases s with rfl | rfl | rfl<;>exact Ok.nil _ _ _ _
 have aG:Bw w a:=(by rw[<- N];exact(b0r).alloc (l0r _) _);have Z:a.heap.size=w.heap.size+1:=(by rw[<- N];exact M7P);obtain⟨T,U⟩:∃T,a.alloc (.cells #[.int .i32 97] 21)=T:=⟨_,rfl⟩;have aH:Bw w T:=(by rw[<- U];exact aG.alloc f6J _);have aN:T.heap.size=w.heap.size+2:=by rw[<- U];exact P8P
 have aJ:Ok .i32 21 T w.heap.size (.slice (some ⟨w.heap.size+1,0,none⟩) 1 1) [97]:=by
  have:=x9L a w.heap.size f6J 97 f6J;rw[U,Z]at this;exact this
 have aF:Rown T w.heap.size (.slice (some ⟨w.heap.size,0,none⟩) 3 3) lpsA:=(by rw[<- U];exact hA.alloc9 _);obtain⟨b,H⟩:∃b,T.alloc (.cells (rcells (lpsB (w.heap.size+1))).toArray 60)=b:=⟨_,rfl⟩;have M:Bw w b:=(by rw[<- H];exact aH.alloc f6J _);have aR:b.heap.size=w.heap.size+3:=(by rw[<- H];exact P8P);have ab:=y4p T (lpsB (w.heap.size+1));rw[H,aN]at ab;have y:Rown b w.heap.size (.slice (some ⟨w.heap.size,0,none⟩) 3 3) lpsA:=by rw[<- H];exact aF.alloc9 _
 have aL:∀q∈lpsB (w.heap.size+1),Ok .i32 21 b w.heap.size q.2 q.1.to:=fun q d=>by
  simp only[lpsB,List.mem_cons,List.mem_nil_iff,or_false]at d;rcases d with rfl | rfl | rfl
  ·rw[<- H];exact aJ.below ((b0r).alloc (l0r _) _)
  ·exact n7f
  ·exact n7f
 have r:=z0l (lpsB (w.heap.size+1)) (fun p s=>by
  simp only[lpsB,List.mem_cons,List.mem_nil_iff,or_false]at s
  rcases s with rfl | rfl | rfl<;>rfl)
 have R:=O y;have aD:Hid (b.ownsRow w.heap.size 60 8 (.slice (some ⟨w.heap.size,0,none⟩) 3 3) 3 (rcells lpsA)):=y.1;have G:=O aL;have F:=O ab;have n:=O r;have aB:=O M;replace N:w.alloc (.cells #[.int .i64 1,.int .i64 97,.int .i64 122,.int .i64 0,.slice none 0 0,.string ⟨#[]⟩,.string ⟨#[]⟩,.float .f64 0,.int .i64 1,.int .i64 48,.int .i64 57,.int .i64 0,.slice none 0 0,.string ⟨#[]⟩,.string ⟨#[]⟩,.float .f64 0,.int .i64 1,.int .i64 45,.int .i64 46,.int .i64 0,.slice none 0 0,.string ⟨#[]⟩,.string ⟨#[]⟩,.float .f64 0] 60)=a:=N;replace H:T.alloc (.cells #[.int .i64 4,.int .i64 65,.int .i64 90,.int .i64 1,.slice (some ⟨w.heap.size+1,0,none⟩) 1 1,.string ⟨#[]⟩,.string ⟨#[]⟩,.float .f64 0,.int .i64 1,.int .i64 224,.int .i64 224,.int .i64 0,.slice none 0 0,.string ⟨#[]⟩,.string ⟨#[]⟩,.float .f64 0,.int .i64 1,.int .i64 768,.int .i64 768,.int .i64 0,.slice none 0 0,.string ⟨#[]⟩,.string ⟨#[]⟩,.float .f64 0] 60)=b:=H;go_enter func24,ntmps24;go_wp2_with(at_builtin;refine wpList_append_own _ rfl (.tmp 6) (.tmp 11) 22 rfl w.heap.size 60 i1 (.agg #[.int .i64 0,.int .i64 0,.int .i64 0,.int .i64 0,.slice none 0 0,.string ⟨#[]⟩,.string ⟨#[]⟩,.float .f64 0]) 8 96 underlying22 hj Q J S rfl e8P _ _ _ rfl (V aD) ⟨w.heap.size+2,0,none⟩ 3 3 (rcells (lpsB (w.heap.size+1))) rfl (by rw[x1i];rfl) (V F) (V n) T7X f6J f6J ?_);intro aA I C A _;have z:Rown I w.heap.size aA (lpsA++lpsB (w.heap.size+1)):=y1F (V R) (V G) C A;have D:Bw w I:=(V aB).grown A f6J (fun k hk=>((V R).1.lt k hk).1);have ay:=D.size
 have E:∃g cap,aA=.slice (some ⟨g,0,none⟩) 6 cap:=by
  rcases C.2 with⟨_,h0⟩ | ⟨g,cap,aP,e,_⟩
  ·omega
  ·exact⟨g,cap,e⟩
 obtain⟨am,j,rfl⟩:=E;obtain⟨m,hm⟩:∃m,I.heap.size=m:=⟨_,rfl⟩;obtain⟨c,ae⟩:∃c,I.alloc (.cells #[.int .i32 97,.int .i32 768] 21)=c:=⟨_,rfl⟩;have aI:Bw w c:=(by rw[<- ae];exact D.alloc f6J _);have aO:c.heap.size=m+1:=by rw[<- ae];exact P8P
 have aK:Ok .i32 21 c w.heap.size (.slice (some ⟨m,0,none⟩) 2 2) [97,768]:=by
  have:=(ok_two I 97 768 f6J f6J).lower ay;rw[ae,hm]at this;exact this
 obtain⟨i,L⟩:∃i,c.alloc (.cells (rcells (lpsC m)).toArray 60)=i:=⟨_,rfl⟩;have P:Bw w i:=(by rw[<- L];exact aI.alloc f6J _);have aS:i.heap.size=m+2:=(by rw[<- L];exact P8P);have ab:=y4p c (lpsC m);rw[L,aO]at ab;have ar:Rown i w.heap.size (.slice (some ⟨am,0,none⟩) 6 j) (lpsA++lpsB (w.heap.size+1)):=by rw[<- L,<- ae];exact(z.alloc9 _).alloc9 _
 have aM:∀q∈lpsC m,Ok .i32 21 i w.heap.size q.2 q.1.to:=fun q d=>by
  simp only[lpsC,List.mem_cons,List.mem_nil_iff,or_false]at d;rcases d with rfl | rfl | rfl | rfl
  ·rw[<- L];exact aK.below ((b0r).alloc (l0r _) _)
  ·exact n7f
  ·exact n7f
  ·exact n7f
 have t:=z0l (lpsC m) (fun p s=>by
  simp only[lpsC,List.mem_cons,List.mem_nil_iff,or_false]at s
  rcases s with rfl | rfl | rfl | rfl<;>rfl)
 have f:Hid (i.ownsRow w.heap.size 60 8 (.slice (some ⟨am,0,none⟩) 6 j) 6 (rcells (lpsA++lpsB (w.heap.size+1)))):=ar.1;have K:=O ar;have aC:=O aM;have F:=O ab;have o:=O t;have Y:=O P;have aQ:w.heap.size<=m:=f6J;replace L:c.alloc (.cells #[.int .i64 7,.int .i64 224,.int .i64 224,.int .i64 0,.slice (some ⟨m,0,none⟩) 2 2,.string ⟨#[]⟩,.string ⟨#[]⟩,.float .f64 0,.int .i64 6,.int .i64 768,.int .i64 768,.int .i64 230,.slice none 0 0,.string ⟨#[]⟩,.string ⟨#[]⟩,.float .f64 0,.int .i64 11,.int .i64 768,.int .i64 768,.int .i64 0,.slice none 0 0,.string ⟨#[]⟩,.string ⟨#[]⟩,.float .f64 0,.int .i64 14,.int .i64 224,.int .i64 224,.int .i64 0,.slice none 0 0,.string ⟨#[]⟩,.string ⟨#[]⟩,.float .f64 4591870180066957722] 60)=i:=L;go_wp2_with(at_builtin;refine wpList_append_own _ rfl (.tmp 13) (.tmp 19) 22 rfl w.heap.size 60 i1 (.agg #[.int .i64 0,.int .i64 0,.int .i64 0,.int .i64 0,.slice none 0 0,.string ⟨#[]⟩,.string ⟨#[]⟩,.float .f64 0]) 8 96 underlying22 hj Q J S rfl e8P _ _ _ rfl (V f) ⟨m+1,0,none⟩ 4 4 (rcells (lpsC m)) rfl (by rw[x1i];rfl) (V F) (V o) T7X f6J f6J ?_);intro u aj X l _;have aq:Rown aj w.heap.size u (lpsA++lpsB (w.heap.size+1)++lpsC m):=y1F (V K) (V aC) X l;have aw:Bw w aj:=(V Y).grown l f6J (fun k hk=>((V K).1.lt k hk).1);have HF:Hid (x6r w Cn.x2d (.returned u) aj):=⟨u,_,rfl,rfl,aq,aw⟩;exact I7o
