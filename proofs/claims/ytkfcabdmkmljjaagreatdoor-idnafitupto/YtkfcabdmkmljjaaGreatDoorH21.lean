/- Lemmas. -/
import Derived.Test.YtkfcabdmkmljjaaGreatDoorH19
import Derived.Test.YtkfcabdmkmljjaaGreatDoorH22
import Derived.Test.YtkfcabdmkmljjaaGreatDoorH24
import Derived.Test.YtkfcabdmkmljjaaGreatDoorH25
import Derived.Test.YtkfcabdmkmljjaaGreatDoorH26
import Derived.Test.YtkfcabdmkmljjaaGreatDoorH27
import Derived.Test.YtkfcabdmkmljjaaGreatDoorH28
import Derived.Test.YtkfcabdmkmljjaaGreatDoorH29
import Derived.Test.YtkfcabdmkmljjaaGreatDoorH30
import Derived.Test.YtkfcabdmkmljjaaGreatDoorH32
set_option maxHeartbeats 8000000
set_option maxRecDepth 100000
namespace Go.Proofs.YtkfcabdmkmljjaaGreatDoor
open Go.Proofs.Tryz
open Go.RowKit
open Ti
section
variable{p:Prop}
theorem S0O(h:p:=by unfold Cn.x1e;rw[h];rfl):p:=h
theorem W8I(h:p:=by simp only[Bool.and_eq_true]at D;have:=x5r D.1.2;omega):p:=h
theorem g2b(h:p:=by have:=of_decide_eq_false h;exact f6J):p:=h
theorem f7g(h:p:=by simp only[Bool.and_eq_true]at D;have:=x5r D.1;omega):p:=h
theorem R4l(h:p:=by go_wp2_with(go_at_call 38;refine(V K).mono ?_;rintro e Q ⟨rfl,A,rfl⟩;clear K);go_ret;exact⟨rfl,A,rfl⟩):p:=h
theorem f4w(h:p:=by
 rcases u4.1.2 with⟨e,_⟩ | ⟨_,_,_,e,_⟩
 ·exact⟨_,_,_,e⟩
 ·exact⟨_,_,_,e⟩):p:=h
end
theorem x8b v rs kind w(hg:Glob w)(hv:Rcs w v rs)(hk:I64 kind)(bU:∀r∈Cn.famOf (Cn.fam kind) rs,Cn.right r=0/\r.kind≠15)(hl:(Cn.famOf (Cn.fam kind) rs).length<=4096)(bE:∀m:List Tri.Rg,m.Perm (Cn.rangesA (fun i _=>(i:Int)) 1 (Cn.famOf (Cn.fam kind) rs))->(m.Pairwise fun x y=>Tri.lo x<=Tri.lo y)->Tri.Val 0 m):Calls prog 95 #[v,.int .i64 kind] w (SpkB w (Cn.famOf (Cn.fam kind) rs)):=by
 obtain⟨i0,bQ,cz,cB,cC⟩:=info_parts Tryz.info272;obtain⟨i1,bR,ci,cj,cw⟩:=info_parts Tryz.info60;obtain⟨W1,W2,cQ,bO,d,N,bY,ba⟩:=z7X w;have K1:=O (x5w v rs kind W2 (hg.on d) (hv.below d) hk);unfold FamB at K1
 have bn:W2.heap[w.heap.size+1]?=some (.cells #[.int .i64 0,.int .i64 0,.int .i64 0,.int .i64 0,.slice none 0 0,.string ⟨#[]⟩,.string ⟨#[]⟩,.float .f64 0] 60 (0,0)):=by
  rw[<- bO,<- N];show(W1.heap.push _)[W1.heap.size]?=_;simp
 obtain⟨ao,cap,cf,_,_⟩:=hv.shape;generalize Cn.famOf (Cn.fam kind) rs=fs at *;have aq:=O bU;have E:=O bE;have bI:=O ba;have bH:=O bn;have cO:=O d;have aT:=O bY;subst cf;go_enter func95,ntmps95;go_wp2_with fail;refine(V K1).mono ?_;rintro e1 w1 ⟨v1,qs,rfl,bw,hR,aA⟩;have cU:qs.length=fs.length:=(by rw[<- bw,List.length_map]);have H:Rcs w1 v1 fs:=(by rw[<- bw];exact hR.rsx.rcs aA f6J);have af:=O (V bI w1 aA)
 have aD:w1.heap[w.heap.size+1]?=some (.cells #[.int .i64 0,.int .i64 0,.int .i64 0,.int .i64 0,.slice none 0 0,.string ⟨#[]⟩,.string ⟨#[]⟩,.float .f64 0] 60 (0,0)):=by
  rw[aA.block _ (by have:=V aT;exact f6J)];exact V bH
 have ar:Hid (∀k,(Cn.rangesA (fun i _=>(i:Int)) 1 (fs.take k)).length<=4563402752):=fun k=>by
  have h1:=Cn.x3H (g:=fun i _=>(i:Int)) (fs.take k) 1 (fun r hr=>V aq r (List.mem_of_mem_take hr));have h2:(fs.take k).length<=fs.length:=List.length_take_le' _ _;omega
 have D:Hid (∀k,k<fs.length->∃b P cap va,v1=.slice (some ⟨b,P,none⟩) fs.length cap/\RecFit (fs.getD k Cn.none)/\∀W:World,(∀g,g<w1.heap.size->g≠w.heap.size+1->W.heap[g]?=w1.heap[g]?)->(W.cell? ⟨b,P+k*8,none⟩=some (.int .i64 (fs.getD k Cn.none).kind)/\W.cell? ⟨b,P+k*8+1,none⟩=some (.int .i64 (fs.getD k Cn.none).lo)/\W.cell? ⟨b,P+k*8+2,none⟩=some (.int .i64 (fs.getD k Cn.none).hi)/\W.cell? ⟨b,P+k*8+3,none⟩=some (.int .i64 (fs.getD k Cn.none).n)/\W.cell? ⟨b,P+k*8+4,none⟩=some va/\W.cell? ⟨b,P+k*8+5,none⟩=some (.string (fs.getD k Cn.none).name)/\W.cell? ⟨b,P+k*8+6,none⟩=some (.string (fs.getD k Cn.none).other)/\W.cell? ⟨b,P+k*8+7,none⟩=some (.float .f64 (fs.getD k Cn.none).wt))/\Sk .i32 W va (fs.getD k Cn.none).to):=fun k hk=>by
  obtain⟨b,P,cap,he,_,_,hc⟩:=H.place f6J;have cR:W2.heap.size<=b:=(hR.1.lt b (by rw[he];rfl)).1;have bP:b≠w.heap.size+1:=(by have:=V aT;exact f6J);obtain⟨y0,y1,y2,y3,⟨va,y4,t⟩,y5,y6,y7⟩:=hc k hk;refine⟨b,P,cap,va,he,H.fit hk,fun W hW=>?_⟩;have e:∀j,W.cell? ⟨b,j,none⟩=w1.cell? ⟨b,j,none⟩:=fun j=>World.cell?_of_block (hW b (x0a y0) bP);exact⟨⟨by rw[e];exact y0,by rw[e];exact y1,by rw[e];exact y2,by rw[e];exact y3,by rw[e];exact y4,by rw[e];exact y5,by rw[e];exact y6,by rw[e];exact y7⟩,q0P aD hW t⟩
 have aW:Hid (∀k,k<fs.length->Cn.rangesA (fun i _=>(i:Int)) 1 (fs.take (k+1))=Cn.rangesA (fun i _=>(i:Int)) 1 (fs.take k)++Cn.spoken (fs.getD k Cn.none) ((1+k:Nat):Int)/\fs.take (k+1)=fs.take k++[fs.getD k Cn.none]):=fun k hk=>by
  have e:fs.take (k+1)=fs.take k++[fs.getD k Cn.none]:=by
   rw[List.take_add_one];simp[List.getD,hk]
  rw[e,Cn.x2S,List.length_take,Nat.min_eq_left f6J];exact⟨rfl,rfl⟩
 obtain⟨cP,cE,bF,_,_⟩:=H.shape;subst bF;go_wp2;go_loopw[5,6,8,15] (fun lv rv _ iv wr=>∃(k:Nat) (ps:List (Rec×Value)),iv=.int .i64 k/\k<=fs.length/\ps.map (·.1)=Cn.none::fs.take k/\ps.length=k+1/\(∃lo cap,lv=.slice lo (k+1) cap/\cap<=9223372036854775807)/\Spst w w1 wr rv lv (Cn.rangesA (fun i _=>(i:Int)) 1 (fs.take k)) ps) (fun _ _ _ iv _=>fs.length-(intOf iv).toNat)
 case atStart=>exact⟨0,[(Cn.none,.slice none 0 0)],rfl,f6J,rfl,rfl,⟨_,_,by first| rfl|(rw[N];rfl),f6J⟩,by first| exact V af|(rw[N];exact V af)⟩
 case round =>
  obtain⟨k,ps,rfl,hk,aH,G,⟨K,S,rfl,cS⟩,hS⟩:=hrel;by_cases aG:k<fs.length
  ·obtain⟨b,P,cD,va,he,s,aZ⟩:=V D k aG;obtain⟨q1,q2,q3⟩:=Value.slice.inj he;subst q1;obtain⟨aI,aJ⟩:=V aq (fs.getD k Cn.none) (by simp[List.getD,aG]);obtain⟨aX,bM⟩:=V aW k aG;have bG:=V ar k;obtain⟨⟨x0,x1,x2,x3,x4,x5,x6,x7⟩,t⟩:=aZ wr hS.old;obtain⟨A,J,rfl,_,_⟩:=t.shape;generalize fs.getD k Cn.none=r at *;have cd:Fi (((1+k:Nat):Int)):=⟨f6J,f6J⟩;have bA:=y1O r ((1+k:Nat):Int) aI aJ;have bZ:=Cn.x5i aI aJ ((1+k:Nat):Int);have bS:(((1+k:Nat):Int))=(k:Int)+1:=f6J;have ai:=hS.bel;obtain⟨V1,az⟩:∃V1,wr.alloc (.cells #[.int .i64 r.kind,.int .i64 r.lo,.int .i64 r.hi,.int .i64 r.n,.slice A r.to.length J,.string r.name,.string r.other,.float .f64 r.wt] 60)=V1:=⟨_,rfl⟩;have bm:Bw wr V1:=by rw[<- az];exact(b0r).alloc (l0r _) _
   have aj:V1.heap[wr.heap.size]?=some (.cells #[.int .i64 r.kind,.int .i64 r.lo,.int .i64 r.hi,.int .i64 r.n,.slice A r.to.length J,.string r.name,.string r.other,.float .f64 r.wt] 60 (0,0)):=by
    rw[<- az];exact s6Q
   have cV:V1.heap.size=wr.heap.size+1:=(by rw[<- az];exact World.size_alloc _ _);have bN:=hS.below bm;have KS:=O (x7D r (.slice A r.to.length J) _ V1 s (t.below bm) aI aJ cd);unfold recV at KS;rw[bS]at KS aX bA bZ;have KC:Hid (∀W,(∀g,g<w1.heap.size->g≠w.heap.size+1->W.heap[g]?=w1.heap[g]?)->Calls prog 148 #[.slice A r.to.length J] W (x0h W r.to)):=fun W h=>x2I _ r.to W (aZ W h).2 s.len;unfold x0h at KC;have aP:Hid (∀g,(Value.slice K (k+1) S).ownBlock=some g->g<wr.heap.size):=fun g U=>(hS.rcs.1.lt g U).2;have aS:Hid (∀p∈ps,∀g,p.2.ownBlock=some g->g<wr.heap.size):=fun p hp g U=>((hS.rcs.2 p hp).2.2.lt g U).2;have bJ:Hid (∀g,u6.ownBlock=some g->g<wr.heap.size):=fun g U=>(hS.rng.2.2.lt g U).2;obtain⟨z0,z1,z2,z3,z4,z5,z6,z7⟩:=x4H aj;have cT:∀W a m,(store a (.float .f64 r.wt) m).run prog W=stored prog W a (.float .f64 r.wt) m:=fun W a m=>run_store prog W a _ m rfl;have bK:=O bN;have aL:=O aj;have cM:=hS.sz;have cH:=hS.s1;generalize hys:Cn.spoken r ((k:Int)+1)=ys,Cn.rangesA (fun i _=>(i:Int)) 1 (fs.take k)=xs at *;obtain⟨F,lo,hi,nn,z,nm,ot,wt⟩:=r;simp only at *;go_wp2_with fail;refine(V KS).mono ?_;rintro e3 w3 ⟨v3,rfl,be,aB⟩;obtain⟨g3,aY,rfl,bB⟩:=z0m be bA;have aw:=(V bK).below aB;have cJ:=aw.sz;have cF:=aB.size;have HM:=O aw.rng.2.2;have aV:=O bB;have aR:=O (Ti.x4W ys);have Q:Hid (∀v4 w4,w4.ownsRow w1.heap.size 272 3 v4 (xs.length+ys.length) (Ti.rcells xs++Ti.rcells ys)->w3.grownBy w4 u6.ownBlock->Spst w w1 w4 v4 (.slice K (k+1) S) (xs++ys) ps):=fun v4 w4 h1 h2=>aw.ranges be.1 f6J h1 h2;have aM:Hid (w3.heap[wr.heap.size]?=some (.cells #[.int .i64 F,.int .i64 lo,.int .i64 hi,.int .i64 nn,.slice A z.length J,.string nm,.string ot,.float .f64 wt] 60 (0,0))):=(aB.block _ f6J).trans (V aL);go_wp2_with(at_builtin;refine wpList_append_own _ rfl (.tmp 19) (.tmp 23) 230 rfl w1.heap.size 272 i0 (.agg #[.int .i64 0,.int .i64 0,.int .i64 0]) 3 24 underlying230 bQ cz cB cC rfl e8Q _ _ _ rfl (V HM) ⟨g3,0,none⟩ ys.length aY (Ti.rcells ys) rfl (by rw[Ti.x1K]) (V aV) (V aR) T7X f6J f6J ?_);intro v4 w4 bV aF _;have bh:=V Q v4 w4 bV aF
   have C:w4.heap[wr.heap.size]?=some (.cells #[.int .i64 F,.int .i64 lo,.int .i64 hi,.int .i64 nn,.slice A z.length J,.string nm,.string ot,.float .f64 wt] 60 (0,0)):=by
    rw[aF.block _ f6J (fun e=>by have:=V bJ _ e.symm;exact f6J)];exact V aM
   have cK:=aF.size;have z4:=(x4H C).2.2.2.2.1;have K5:=O (V KC w4 bh.old);have aU:=O bh;have X:=O C;go_wp2_with fail;refine(V K5).mono ?_;rintro e5 w5 ⟨v5,rfl,l,q⟩;obtain⟨Y,c5,ce,_,_⟩:=l.sk.shape;subst ce;have cL:=q.size;have T:=(V aU).below q;have L:w5.heap[wr.heap.size]?=some (.cells #[.int .i64 F,.int .i64 lo,.int .i64 hi,.int .i64 nn,.slice A z.length J,.string nm,.string ot,.float .f64 wt] 60 (0,0)):=(q.block _ f6J).trans (V X);have y4:=(x4H L).2.2.2.2.1;have f4:=x0d (j:=4) L;obtain⟨I,ab⟩:∃I,w5.setCell ⟨wr.heap.size,4,none⟩ (.slice Y z.length c5)=I:=⟨_,rfl⟩
   have Z:I.heap[wr.heap.size]?=some (.cells #[.int .i64 F,.int .i64 lo,.int .i64 hi,.int .i64 nn,.slice Y z.length c5,.string nm,.string ot,.float .f64 wt] 60 (0,0)):=by
    rw[<- ab,x0c L];rfl
   have bC:I.heap.size=w5.heap.size:=by rw[<- ab];exact x0V _ _ _ _
   have ae:Spst w w1 I v4 (.slice K (k+1) S) (xs++ys) ps:=by
    refine T.keep (B:=wr.heap.size) f6J (by rw[<- ab];exact x0b T.bel ai.size _) f6J (fun g _ bT=>by rw[<- ab];exact x0e _ bT) (z1n T.rng.2.2 L e8Q) (fun e=>by have:=V aP _ e;exact f6J) (fun p hp e=>by have:=V aS p hp _ e;exact f6J)
   have bD:Ok .i32 21 I w.heap.size (.slice Y z.length c5) z:=by
    refine(l.lower (by have:=ai.size;exact f6J)).keep fun g U=>?_;rw[<- ab];exact x0e _ (fun e=>by have:=(l.2.2.lt g U).1;exact f6J)
   obtain⟨s0,s1,s2,s3,s4,s5,s6,s7⟩:=x4H Z;have aQ:Hid (∀o,(I.alloc o).ownsRow w.heap.size 60 8 (.slice K (k+1) S) (k+1) (rcells ps)):=fun o=>(by have:=ae.rcs.1.alloc o;rw[G]at this;exact this);have c:Hid (∀j u,(x0A (⟨F,lo,hi,nn,z,nm,ot,wt⟩,.slice Y z.length c5))[j]?=some u->(I.alloc (.cells #[.int .i64 F,.int .i64 lo,.int .i64 hi,.int .i64 nn,.slice Y z.length c5,.string nm,.string ot,.float .f64 wt] 60)).cell? ((⟨I.heap.size,0,none⟩:Addr).add j)=some u):=x6h I I.heap.size rfl ⟨F,lo,hi,nn,z,nm,ot,wt⟩ _;have R:=O (x7l ⟨F,lo,hi,nn,z,nm,ot,wt⟩ (vt:=.slice Y z.length c5) rfl)
   have M:Hid (∀o gg f w8,w8.ownsRow w.heap.size 60 8 (.slice (some ⟨gg,0,none⟩) (k+1+1) f) (k+1+1) (rcells ps++x0A (⟨F,lo,hi,nn,z,nm,ot,wt⟩,.slice Y z.length c5))->(I.alloc o).grownBy w8 (Value.slice K (k+1) S).ownBlock->((Value.slice K (k+1) S).ownBlock=some gg\/gg=I.heap.size+1)->Spst w w1 w8 v4 (.slice (some ⟨gg,0,none⟩) (k+1+1) f) (xs++ys) (ps++[(⟨F,lo,hi,nn,z,nm,ot,wt⟩,.slice Y z.length c5)])):=fun o gg f w8 h1 h2 h3=>by
    have h:=ae.more (r:=⟨F,lo,hi,nn,z,nm,ot,wt⟩) bD (gg:=gg) (cap:=f) (by rw[G];exact h1) h2 h3;rw[G]at h;exact h
   have cI:=ae.bel.size;clear K5 l q T L Z ae bD aU X aP aS bC;go_wp2_with(at_builtin;refine wpList_append_lies _ rfl (.tmp 29) (.tmp 31) 22 rfl w.heap.size 60 i1 (.agg #[.int .i64 0,.int .i64 0,.int .i64 0,.int .i64 0,.slice none 0 0,.string ⟨#[]⟩,.string ⟨#[]⟩,.float .f64 0]) 8 96 underlying22 bR ci cj cw rfl e8Q _ _ _ rfl (V aQ _) ⟨I.heap.size,0,none⟩ 1 1 (x0A (⟨F,lo,hi,nn,z,nm,ot,wt⟩,.slice Y z.length c5)) rfl rfl (V c) (V R) f6J T7X f6J P8P (I.heap.size+1) M7N ?_);intro gg f w8 aK bt ag cG;have bj:=V M _ gg f w8 aK bt ag
   have aC:f<=9223372036854775807:=by
    rcases aK.2 with⟨h0,_⟩ | ⟨_,_,_,h0,_,_,_,h1,_⟩
    ·cases h0
    ·obtain⟨_,_,e3⟩:=Value.slice.inj h0;rw[e3];unfold maxLen at h1;omega
   have bL:=O bj;clear aQ c R M aK bt ag bj s0 s1 s2 s3 s4 s5 s6 s7 y4 f4 z4;go_wp2
   go_roundw
   case rel=>exact⟨k+1,ps++[(⟨F,lo,hi,nn,z,nm,ot,wt⟩,.slice Y z.length c5)],g2D,f6J,by rw[List.map_append,aH,bM];rfl,by rw[List.length_append,G];rfl,⟨_,_,rfl,aC⟩,by rw[aX];exact V bL⟩
   case measure=>exact g7W
  ·obtain rfl:k=fs.length:=f6J;rw[List.take_of_length_le (l0r _)]at hS aH;have bG:=V ar fs.length;rw[List.take_of_length_le (l0r _)]at bG;have KB:=O (y5i _ wr u6 _ hS.rng f6J (V E));unfold y7i at KB;have HS:=O hS;obtain⟨ro,cN,bX,_,_⟩:=hS.rng.sr.shape;subst bX;clear hS D aW aq ar E;go_wp2_with fail;refine(V KB).mono ?_;rintro e9 w9 ⟨a,m,rfl,p1,p2,hT,bu⟩;obtain⟨F1,F2,F3,F4,F5⟩:=(V HS).fin bu hT;have y0:=cell_of (j:=0) F1 (by show 0<2;exact f6J);have y1:=cell_of (j:=1) F1 w2h;have f0:=fun j=>x0d (j:=j) F1;have aN:=O F2;have HF:SpkB w fs (.returned (.agg #[.pointer (some a),.slice K (fs.length+1) S])) _:=⟨a,m,_,ps,rfl,p1,p2,F3,F4,aH,F5⟩;have aO:=O HF;clear KB hT bu F1 F2 F3 F4 F5 HF HS p1 p2;go_wp2;have am:=V aN;have bp:=V aO;clear aN aO y0 y1 f0;generalize(w9.setCell ⟨w.heap.size,0,none⟩ (.pointer (some a))).setCell ⟨w.heap.size,1,none⟩ (.slice K (fs.length+1) S)=cW at *;have z0:=cell_of (j:=0) am (by show 0<2;exact f6J);have z1:=cell_of (j:=1) am w2h;refine bodyPost_ret (v:=.agg #[.pointer (some a),.slice K (fs.length+1) S]) (by simp[results,Tryz.results95,go_sem,z0,z1]) rfl bp
open Ti
def TrP(W:World)(B:Nat)(v:Value)(xs:List Tri.Rg):Prop:=∃a m,v=.pointer (some a)/\m.Perm xs/\(m.Pairwise fun x y=>Tri.lo x<=Tri.lo y)/\T4 W B v m 0
def SpP(W:World)(B:Nat)(v vl:Value)(fs:List Rec):Prop:=TrP W B v (Cn.rangesA (fun i _=>(i:Int)) 1 fs)/\∃ps,Rown W B vl ps/\ps.map (·.1)=Cn.none::fs
def CoP(W:World)(B:Nat)(c1 c2:Value)(rs:List Rec):Prop:=∃r1 r2,c1=.map (some r1)/\c2=.map (some r2)/\B<=r1/\B<=r2/\GAt KP W r1 (x3n rs)/\GAt KR W r2 (secC rs)
def MiP(W:World)(B:Nat)(x:Value):Prop:=∃r,x=.map (some r)/\B<=r/\MxAt W r
theorem x6M{W:World}{g o}(h:W.heap[g]?=some o):g<W.heap.size:=by grind
section
variable {W W':World} {B B':Nat} {v vl c1 c2 x:Value} {xs:List Tri.Rg} {fs rs:List Rec}
theorem TrP.below(h:TrP W B v xs)(Y:Bw W W'):TrP W' B v xs:=by
 obtain⟨a,m,e,p,s,t⟩:=h;exact⟨a,m,e,p,s,t.below Y⟩
theorem TrP.lower(h:TrP W B v xs)(Y:B'<=B):TrP W B' v xs:=by
 obtain⟨a,m,e,p,s,t⟩:=h;exact⟨a,m,e,p,s,T4.lower t Y⟩
theorem z0S{w:World}{B B' e F n:Nat}{v us}(h:w.ownsRow B e F v n us)(Y:B'<=B):w.ownsRow B' e F v n us:=by
 refine⟨h.1,?_⟩;rcases h.2 with H | ⟨g,cap,Q,N,C,r⟩
 ·exact .inl H
 ·exact .inr ⟨g,cap,Q,N,f6J,r⟩
theorem SpP.below(h:SpP W B v vl fs)(Y:Bw W W'):SpP W' B v vl fs:=by
 obtain⟨t,ps,u,e⟩:=h;exact⟨t.below Y,ps,⟨x0w u.1 fun g C=>Y.block g (u.1.lt g C).2,fun p s=>(u.2 p s).below Y⟩,e⟩
theorem SpP.lower(h:SpP W B v vl fs)(Y:B'<=B):SpP W B' v vl fs:=by
 obtain⟨t,ps,u,e⟩:=h;exact⟨t.lower Y,ps,⟨z0S u.1 Y,fun p s=>(u.2 p s).lower Y⟩,e⟩
theorem GAt.below{K:Value->Prop}{r}{c:Value->Option Value}(h:GAt K W r c)(Y:Bw W W'):GAt K W' r c:=by
 obtain⟨d,I,Z,D⟩:=h;exact⟨d,I,by rw[Y.block r (x6M Z)];exact Z,D⟩
theorem CoP.below(h:CoP W B c1 c2 rs)(Y:Bw W W'):CoP W' B c1 c2 rs:=by
 obtain⟨I,r2,P,E,b1,u,i,A⟩:=h;exact⟨I,r2,P,E,b1,u,i.below Y,A.below Y⟩
theorem CoP.lower(h:CoP W B c1 c2 rs)(Y:B'<=B):CoP W B' c1 c2 rs:=by
 obtain⟨I,r2,P,E,b1,u,i,A⟩:=h;exact⟨I,r2,P,E,f6J,f6J,i,A⟩
theorem MiP.below(h:MiP W B x)(Y:Bw W W'):MiP W' B x:=by
 obtain⟨r,e,b,c,g⟩:=h;exact⟨r,e,b,c,g.below Y⟩
theorem MiP.lower(h:MiP W B x)(Y:B'<=B):MiP W B' x:=by
 obtain⟨r,e,b,c⟩:=h;exact⟨r,e,f6J,c⟩
end
structure DataV(W:World)(B:Nat)(rs:List Rec)(t1 t2 t3 t4 t5 a1 l1 a2 l2 a3 l3 a4 l4 a5 l5 c1 c2 x1:Value):Prop where
 p1:TrP W B t1 (Cn.rangesA (fun _ r=>Cn.value r) 1 (Cn.famOf 1 rs))
 p2:TrP W B t2 (Cn.rangesA (fun _ r=>Cn.value r) 1 (Cn.famOf 2 rs))
 p3:TrP W B t3 (Cn.rangesA (fun _ r=>Cn.value r) 1 (Cn.famOf 4 rs))
 p4:TrP W B t4 (Cn.rangesA (fun _ r=>Cn.value r) 1 (Cn.famOf 5 rs))
 p5:TrP W B t5 (Cn.rangesA (fun _ r=>Cn.value r) 1 (Cn.famOf 6 rs))
 q1:SpP W B a1 l1 (Cn.famOf 1 rs)
 q2:SpP W B a2 l2 (Cn.famOf 3 rs)
 q3:SpP W B a3 l3 (Cn.famOf 7 rs)
 q4:SpP W B a4 l4 (Cn.famOf 8 rs)
 q5:SpP W B a5 l5 (Cn.famOf 9 rs)
 co:CoP W B c1 c2 rs
 mi:MiP W B x1
theorem DataV.below{W W' B rs t1 t2 t3 t4 t5 a1 l1 a2 l2 a3 l3 a4 l4 a5 l5 c1 c2 x1}(h:DataV W B rs t1 t2 t3 t4 t5 a1 l1 a2 l2 a3 l3 a4 l4 a5 l5 c1 c2 x1)(Y:Bw W W'):DataV W' B rs t1 t2 t3 t4 t5 a1 l1 a2 l2 a3 l3 a4 l4 a5 l5 c1 c2 x1:=⟨h.p1.below Y,h.p2.below Y,h.p3.below Y,h.p4.below Y,h.p5.below Y,h.q1.below Y,h.q2.below Y,h.q3.below Y,h.q4.below Y,h.q5.below Y,h.co.below Y,h.mi.below Y⟩
def x0m(W:World)(B p:Nat)(rs:List Rec):Prop:=∃t1 t2 t3 t4 t5 a1 l1 a2 l2 a3 l3 a4 l4 a5 l5 c1 c2 x1:Value,W.heap[p]?=some (.cells #[t1,t2,t3,t4,t5,a1,l1,a2,l2,a3,l3,a4,l4,a5,l5,c1,c2,x1] 103 (0,0))/\B<=p/\DataV W B rs t1 t2 t3 t4 t5 a1 l1 a2 l2 a3 l3 a4 l4 a5 l5 c1 c2 x1
theorem x0m.below{W W' B p rs}(h:x0m W B p rs)(Y:Bw W W'):x0m W' B p rs:=by
 obtain⟨o,u,N,R,E,d,A,P,T,f,U,X,C,t,n,c1,c2,S,Z,D,J⟩:=h;exact⟨o,u,N,R,E,d,A,P,T,f,U,X,C,t,n,c1,c2,S,by rw[Y.block p (x6M Z)];exact Z,D,J.below Y⟩
def CmdB(w:World)(rs:List Rec)(e:Ending)(w':World):Prop:=∃p,e=.returned (.pointer (some ⟨p,0,none⟩))/\x0m w' w.heap.size p rs/\Below w.heap.size w w'
theorem y0z v rs w(hg:Glob w)(N:Rcs w v rs)(hc:(Cn.check6 rs).2=0)(j:∀r∈rs,r.kind≠15->0<=Cn.value r/\Cn.value r<=65535)(h7:∀r∈rs,r.kind=7->r.to.length=2/\0<=r.lo/\r.lo<=1114111)(aT:∀r∈rs,r.kind=15->Sh r.name/\Sh r.other):Calls prog 50 #[v] w (CmdB w rs):=by
 obtain⟨hl,Q,_⟩:=Cn.x0k.1 hc;have M:∀f:Int,f≠10->∀r∈Cn.famOf f rs,r.kind≠15:=fun f hf r u e=>hf (by rw[<- (Cn.x0s.1 u).2,e];exact e8N);have aB:∀f,(Cn.famOf f rs).length<=4096:=fun f=>Nat.le_trans (List.length_filter_le _ _) hl
 have I:∀(X f:Int),Cn.fam X=f->f≠10->f≠0->I64 X->Hid (∀W,Bw w W->Calls prog 94 #[v,.int .i64 X] W (x6q W (Cn.rangesA (fun _ r=>Cn.value r) 1 (Cn.famOf f rs)))):=fun X f e1 E e3 e4 W R=>by
  subst e1;refine y1U v rs X W (hg.on R) (N.below R) e4 (fun r u=>?_) (aB _) (fun m hp hs=>(Cn.y3t (Cn.y2y hc ⟨E,e3⟩) (fun k hk=>?_) hp hs).1)
  ·have:=j r (Cn.x0s.1 u).1 (M _ E r u);exact⟨Q r (Cn.x0s.1 u).1,M _ E r u,f6J,f6J⟩
  ·exact j _ (Cn.x0s.1 (List.getElem_mem hk)).1 (M _ E _ (List.getElem_mem hk))
 have ag:∀(X f:Int),Cn.fam X=f->f≠10->f≠0->I64 X->Hid (∀W,Bw w W->Calls prog 95 #[v,.int .i64 X] W (SpkB W (Cn.famOf f rs))):=fun X f e1 E e3 e4 W R=>by
  subst e1;refine x8b v rs X W (hg.on R) (N.below R) e4 (fun r u=>⟨Q r (Cn.x0s.1 u).1,M _ E r u⟩) (aB _) (fun m hp hs=>(Cn.x8F hc ⟨E,e3⟩ hp hs).1)
 have KC:Hid (∀W,Bw w W->Calls prog 96 #[v] W (CmpB W rs)):=fun W R=>x4a v rs W (N.below R) h7 hl;have KM:Hid (∀W,Bw w W->Calls prog 97 #[v] W (MxtB W)):=fun W R=>x7Y v rs W (N.below R) aT;have V1:=I 1 1 e8N e8N e8N ⟨f6J,f6J⟩;have V2:=I 6 2 e8N e8N e8N ⟨f6J,f6J⟩;have V3:=I 9 4 e8N e8N e8N ⟨f6J,f6J⟩;have V4:=I 10 5 e8N e8N e8N ⟨f6J,f6J⟩;have V5:=I 11 6 e8N e8N e8N ⟨f6J,f6J⟩;have P1:=ag 3 1 e8N e8N e8N ⟨f6J,f6J⟩;have P2:=ag 7 3 e8N e8N e8N ⟨f6J,f6J⟩;have P3:=ag 12 7 e8N e8N e8N ⟨f6J,f6J⟩;have P4:=ag 13 8 e8N e8N e8N ⟨f6J,f6J⟩;have P5:=ag 14 9 e8N e8N e8N ⟨f6J,f6J⟩;obtain⟨ao,cap,aV,_,_⟩:=N.shape;subst aV;have Z:=O (Below.refl w.heap.size w);go_enter func50,ntmps50;go_wp2_with fail;refine(V V1 _ (V Z)).mono ?_;rintro e1 w1 ⟨b1,m1,rfl,u1,u2,u3,aU⟩;have aj:=O (bthen (V Z) aU);have C:Hid (TrP w1 w.heap.size (.pointer (some b1)) (Cn.rangesA (fun _ r=>Cn.value r) 1 (Cn.famOf 1 rs))):=TrP.lower ⟨_,_,rfl,u1,u2,u3⟩ (V Z).size;go_wp2_with fail;refine(V V2 _ (V aj)).mono ?_;rintro E w2 ⟨b2,m2,rfl,u1,u2,u3,aA⟩;have T:=O (bthen (V aj) aA);have A:Hid (TrP w2 w.heap.size (.pointer (some b2)) (Cn.rangesA (fun _ r=>Cn.value r) 1 (Cn.famOf 2 rs))):=TrP.lower ⟨_,_,rfl,u1,u2,u3⟩ (V aj).size;replace C:=O ((V C).below aA);go_wp2_with fail;refine(V V3 _ (V T)).mono ?_;rintro e3 w3 ⟨b3,m3,rfl,u1,u2,u3,L⟩;have am:=O (bthen (V T) L);have F:Hid (TrP w3 w.heap.size (.pointer (some b3)) (Cn.rangesA (fun _ r=>Cn.value r) 1 (Cn.famOf 4 rs))):=TrP.lower ⟨_,_,rfl,u1,u2,u3⟩ (V T).size;replace C:=O ((V C).below L);replace A:=O ((V A).below L);go_wp2_with fail;refine(V V4 _ (V am)).mono ?_;rintro e4 w4 ⟨b4,m4,rfl,u1,u2,u3,a⟩;have aq:=O (bthen (V am) a);have K:Hid (TrP w4 w.heap.size (.pointer (some b4)) (Cn.rangesA (fun _ r=>Cn.value r) 1 (Cn.famOf 5 rs))):=TrP.lower ⟨_,_,rfl,u1,u2,u3⟩ (V am).size;replace C:=O ((V C).below a);replace A:=O ((V A).below a);replace F:=O ((V F).below a);go_wp2_with fail;refine(V V5 _ (V aq)).mono ?_;rintro e5 w5 ⟨b5,m5,rfl,u1,u2,u3,q⟩;have Y:=O (bthen (V aq) q);have S:Hid (TrP w5 w.heap.size (.pointer (some b5)) (Cn.rangesA (fun _ r=>Cn.value r) 1 (Cn.famOf 6 rs))):=TrP.lower ⟨_,_,rfl,u1,u2,u3⟩ (V aq).size;replace C:=O ((V C).below q);replace A:=O ((V A).below q);replace F:=O ((V F).below q);replace K:=O ((V K).below q);go_wp2_with fail;refine(V P1 _ (V Y)).mono ?_;rintro e6 w6 ⟨g1,n1,y1,bp,rfl,u1,u2,u3,u4,u5,ab⟩;have ar:=O (bthen (V Y) ab);have d:Hid (SpP w6 w.heap.size (.pointer (some g1)) y1 (Cn.famOf 1 rs)):=SpP.lower ⟨⟨_,_,rfl,u1,u2,u3⟩,_,u4,u5⟩ (V Y).size
 obtain⟨aN,aI,aC,aW⟩:∃o l c,y1=.slice o l c:=f4w
 subst aW;replace C:=O ((V C).below ab);replace A:=O ((V A).below ab);replace F:=O ((V F).below ab);replace K:=O ((V K).below ab);replace S:=O ((V S).below ab);go_wp2_with fail;refine(V P2 _ (V ar)).mono ?_;rintro e7 w7 ⟨g2,n2,y2,bt,rfl,u1,u2,u3,u4,u5,g⟩;have z:=O (bthen (V ar) g);have D:Hid (SpP w7 w.heap.size (.pointer (some g2)) y2 (Cn.famOf 3 rs)):=SpP.lower ⟨⟨_,_,rfl,u1,u2,u3⟩,_,u4,u5⟩ (V ar).size
 obtain⟨aO,aJ,aD,aX⟩:∃o l c,y2=.slice o l c:=f4w
 subst aX;replace C:=O ((V C).below g);replace A:=O ((V A).below g);replace F:=O ((V F).below g);replace K:=O ((V K).below g);replace S:=O ((V S).below g);replace d:=O ((V d).below g);go_wp2_with fail;refine(V P3 _ (V z)).mono ?_;rintro e8 w8 ⟨g3,n3,y3,bu,rfl,u1,u2,u3,u4,u5,P⟩;have aw:=O (bthen (V z) P);have i:Hid (SpP w8 w.heap.size (.pointer (some g3)) y3 (Cn.famOf 7 rs)):=SpP.lower ⟨⟨_,_,rfl,u1,u2,u3⟩,_,u4,u5⟩ (V z).size
 obtain⟨aP,aK,aF,aY⟩:∃o l c,y3=.slice o l c:=f4w
 subst aY;replace C:=O ((V C).below P);replace A:=O ((V A).below P);replace F:=O ((V F).below P);replace K:=O ((V K).below P);replace S:=O ((V S).below P);replace d:=O ((V d).below P);replace D:=O ((V D).below P);go_wp2_with fail;refine(V P4 _ (V aw)).mono ?_;rintro e9 w9 ⟨g4,n4,y4,bw,rfl,u1,u2,u3,u4,u5,n⟩;have az:=O (bthen (V aw) n);have s:Hid (SpP w9 w.heap.size (.pointer (some g4)) y4 (Cn.famOf 8 rs)):=SpP.lower ⟨⟨_,_,rfl,u1,u2,u3⟩,_,u4,u5⟩ (V aw).size
 obtain⟨aQ,aL,aG,aZ⟩:∃o l c,y4=.slice o l c:=f4w
 subst aZ;replace C:=O ((V C).below n);replace A:=O ((V A).below n);replace F:=O ((V F).below n);replace K:=O ((V K).below n);replace S:=O ((V S).below n);replace d:=O ((V d).below n);replace D:=O ((V D).below n);replace i:=O ((V i).below n);go_wp2_with fail;refine(V P5 _ (V az)).mono ?_;rintro bj be ⟨g5,n5,y5,bA,rfl,u1,u2,u3,u4,u5,J⟩;have ae:=O (bthen (V az) J);have af:Hid (SpP be w.heap.size (.pointer (some g5)) y5 (Cn.famOf 9 rs)):=SpP.lower ⟨⟨_,_,rfl,u1,u2,u3⟩,_,u4,u5⟩ (V az).size
 obtain⟨aR,aM,aH,ba⟩:∃o l c,y5=.slice o l c:=f4w
 subst ba;replace C:=O ((V C).below J);replace A:=O ((V A).below J);replace F:=O ((V F).below J);replace K:=O ((V K).below J);replace S:=O ((V S).below J);replace d:=O ((V d).below J);replace D:=O ((V D).below J);replace i:=O ((V i).below J);replace s:=O ((V s).below J);go_wp2_with fail;refine(V KC _ (V ae)).mono ?_;rintro bm bh ⟨r1,r2,rfl,u1,u2,u3,u4,U⟩;have y:=O (bthen (V ae) U);have H:Hid (CoP bh w.heap.size (.map (some r1)) (.map (some r2)) rs):=CoP.lower ⟨_,_,rfl,rfl,u1,u2,u3,u4⟩ (V ae).size;replace C:=O ((V C).below U);replace A:=O ((V A).below U);replace F:=O ((V F).below U);replace K:=O ((V K).below U);replace S:=O ((V S).below U);replace d:=O ((V d).below U);replace D:=O ((V D).below U);replace i:=O ((V i).below U);replace s:=O ((V s).below U);replace af:=O ((V af).below U);go_wp2_with fail;refine(V KM _ (V y)).mono ?_;rintro bn t ⟨r3,rfl,u1,u2,G⟩;have ai:=O (bthen (V y) G);have aS:Hid (MiP t w.heap.size (.map (some r3))):=MiP.lower ⟨_,rfl,u1,u2⟩ (V y).size;replace C:=O ((V C).below G);replace A:=O ((V A).below G);replace F:=O ((V F).below G);replace K:=O ((V K).below G);replace S:=O ((V S).below G);replace d:=O ((V d).below G);replace D:=O ((V D).below G);replace i:=O ((V i).below G);replace s:=O ((V s).below G);replace af:=O ((V af).below G);replace H:=O ((V H).below G)
 have HF:Hid (CmdB w rs (.returned (.pointer (some ⟨t.heap.size,0,none⟩))) (t.alloc (.cells #[.pointer (some b1),.pointer (some b2),.pointer (some b3),.pointer (some b4),.pointer (some b5),.pointer (some g1),.slice aN aI aC,.pointer (some g2),.slice aO aJ aD,.pointer (some g3),.slice aP aK aF,.pointer (some g4),.slice aQ aL aG,.pointer (some g5),.slice aR aM aH,.map (some r1),.map (some r2),.map (some r3)] 103))):=by
  have b:Bw t (t.alloc (.cells #[.pointer (some b1),.pointer (some b2),.pointer (some b3),.pointer (some b4),.pointer (some b5),.pointer (some g1),.slice aN aI aC,.pointer (some g2),.slice aO aJ aD,.pointer (some g3),.slice aP aK aF,.pointer (some g4),.slice aQ aL aG,.pointer (some g5),.slice aR aM aH,.map (some r1),.map (some r2),.map (some r3)] 103)):=(b0r).alloc (l0r _) _;refine⟨_,rfl,⟨_,_,_,_,_,_,_,_,_,_,_,_,_,_,_,_,_,_,?_,(V ai).size,(V C).below b,(V A).below b,(V F).below b,(V K).below b,(V S).below b,(V d).below b,(V D).below b,(V i).below b,(V s).below b,(V af).below b,(V H).below b,(V aS).below b⟩,bthen (V ai) b⟩;show(t.heap.push _)[t.heap.size]?=_;simp
 exact I7o
def CpB(w:World)(rs:List Rec)(e:Ending)(w':World):Prop:=Below w.heap.size w w'/\((¬(Cn.check rs).2=0/\e=.returned (.tuple #[.pointer none,.int .i64 ((Cn.check rs).1:Int),.int .i64 (Cn.check rs).2]))\/((Cn.check rs).2=0/\∃p,e=.returned (.tuple #[.pointer (some ⟨p,0,none⟩),.int .i64 0,.int .i64 0])/\x0m w' w.heap.size p rs))
theorem y0y v rs w(N:Rcs w v rs)(b:Calls prog 49 #[v] w (x3R w (Cn.check rs)))(n:(Cn.check rs).2=0->∀W,Bw w W->Calls prog 50 #[v] W (CmdB W rs)):Calls prog 22 #[v] w (CpB w rs):=by
 have i:=O b;unfold x3R at i;have n:=O n;obtain⟨ao,cap,g,_,_⟩:=N.shape;unfold CpB;by_cases h:(Cn.check rs).2=0
 ·have K:=O (V n h);have G:=O h;generalize hck:Cn.check rs=q at *;obtain⟨C,s⟩:=q;simp only at h;subst h;subst g;go_enter func22,ntmps22;go_wp2_with fail;refine c0m i fun w1 F=>?_;have j:=O (V K w1 F);have l:=O F;go_wp2_with fail;refine(V j).mono ?_;rintro E z ⟨p,rfl,M,H⟩;have T:=O (bthen (V l) H)
  have I:Hid (x0m z w.heap.size p rs):=by
   obtain⟨o,u,r,R,Y,d,Q,P,a,f,U,X,c,t,m,c1,c2,S,Z,D,J⟩:=M;have L:=(V l).size;exact⟨o,u,r,R,Y,d,Q,P,a,f,U,X,c,t,m,c1,c2,S,Z,f6J,J.p1.lower L,J.p2.lower L,J.p3.lower L,J.p4.lower L,J.p5.lower L,J.q1.lower L,J.q2.lower L,J.q3.lower L,J.q4.lower L,J.q5.lower L,J.co.lower L,J.mi.lower L⟩
  go_wp2;go_ret3;exact⟨V T,.inr ⟨V G,p,rfl,V I⟩⟩
 ·have G:=O h;generalize hck:Cn.check rs=q at *;obtain⟨C,s⟩:=q;simp only at h;have y:(s != 0)=true:=bne_iff_ne.2 h;subst g;go_enter func22,ntmps22;go_wp2_with fail;refine c0m i fun w1 F=>?_;have l:=O F;go_wp2;go_ret3;exact⟨V l,.inl ⟨V G,rfl⟩⟩
open Ti
namespace Cn
theorem x5r{r a b c d}(h:bare r false a b c d=true):r.n=0:=by
 unfold bare at h;simp only[Bool.and_eq_true,Bool.false_or,decide_eq_true_eq]at h;exact h.1.1.1.1
theorem y1D{r}(h:right r=0)(G:r.kind≠15)(Z:r.kind≠4):0<=r.n/\r.n<=254:=by
 have z:=x0x h
 have H:1<=r.kind/\r.kind<=15:=by
  unfold fam at z;split at z
  ·exact absurd rfl z
  ·omega
 unfold right at h;rw[if_neg z,if_neg G]at h;have I:=x1v h;rw[Bool.and_eq_true]at I;have D:=I.2;by_cases M:r.kind=1\/r.kind=2\/r.kind=11
 ·rw[if_pos M]at D;have:=x5r D;omega
 rw[if_neg M]at D;by_cases S:r.kind=3
 ·rw[if_pos S]at D;exact f7g
 rw[if_neg S,if_neg Z]at D;by_cases F:r.kind=5
 ·rw[if_pos F]at D;exact W8I
 rw[if_neg F]at D;by_cases E:r.kind=13
 ·rw[if_pos E]at D;exact W8I
 rw[if_neg E]at D;by_cases R:r.kind=6
 ·grind
 rw[if_neg R]at D;by_cases A:r.kind=7
 ·rw[if_pos A]at D;exact W8I
 rw[if_neg A]at D;by_cases X:r.kind=8
 ·rw[if_pos X]at D;exact W8I
 rw[if_neg X]at D;by_cases U:r.kind=9
 ·grind
 rw[if_neg U]at D;by_cases L:r.kind=10
 ·grind
 rw[if_neg L]at D;by_cases C:r.kind=12
 ·rw[if_pos C]at D;exact f7g
 rw[if_neg C]at D;exact f7g
theorem x7r{r}(h:right r=0)(G:r.kind≠15):0<=value r/\value r<=65535:=by
 unfold value;split
 ·omega
 ·split
  ·omega
  ·split
   ·omega
   ·rename_i h34
    split
    ·omega
    ·split
     ·omega
     ·have:=y1D h G (fun e=>h34 (.inr e));omega
theorem x8z{b}(h:nameL b=true):b.size=4:=by
 unfold nameL at h;split at h
 ·rename_i a b c d he
  have:=congrArg List.length he;exact W2K
 ·cases h
theorem z0P{r}(h:right r=0)(X:r.kind=15):r.name.size=4/\r.other.size=4:=by
 have z:=x0x h;unfold right at h;rw[if_neg z,if_pos X]at h;obtain⟨_,_,_,Z,D,_⟩:=x1v h;exact⟨x8z Z,x8z D⟩
theorem x2V{c}(h:scalar c=true):0<=c/\c<=1114111:=by
 unfold scalar at h;have:=o0d h;omega
end Cn
theorem y2o v rs w(C:Glob w)(N:Rcs w v rs):Calls prog 22 #[v] w (CpB w rs):=by
 refine y0y v rs w N (z8V v rs w C N) fun A W R=>?_;have y:=(Cn.x1c.1 A).1;obtain⟨_,Q,_⟩:=Cn.x0k.1 y;refine y0z v rs W (C.on R) (N.below R) y (fun r u G=>Cn.x7r (Q r u) G) (fun r u E=>?_) (fun r u X=>?_)
 ·obtain⟨_,D,J⟩:=Cn.x0C (Q r u) E;have H:=(Cn.x0v J).1;have K:=Cn.x2V D;exact⟨f6J,K.1,K.2⟩
 ·obtain⟨Z,D⟩:=Cn.z0P (Q r u) X;exact⟨by unfold Sh;exact f6J,by unfold Sh;exact f6J⟩
section
variable {W W':World} {B p:Nat} {v vl c1 c2 x:Value} {xs:List Tri.Rg} {fs rs:List Rec}
theorem TrP.keep(h:TrP W B v xs)(L:W.heap.size<=W'.heap.size)(G:∀k,B<=k->k<W.heap.size->W'.heap[k]?=W.heap[k]?):TrP W' B v xs:=by
 obtain⟨a,m,e,p,s,t⟩:=h;exact⟨a,m,e,p,s,T4.keep t L G⟩
theorem SpP.keep(h:SpP W B v vl fs)(L:W.heap.size<=W'.heap.size)(G:∀k,B<=k->k<W.heap.size->W'.heap[k]?=W.heap[k]?):SpP W' B v vl fs:=by
 obtain⟨t,ps,u,e⟩:=h;exact⟨t.keep L G,ps,⟨x6j u.1 G,fun p s=>⟨(u.2 p s).1,(u.2 p s).2.1,x6j (u.2 p s).2.2 G⟩⟩,e⟩
theorem GAt.keep{K:Value->Prop}{r}{c:Value->Option Value}(h:GAt K W r c)(hr:B<=r)(G:∀k,B<=k->k<W.heap.size->W'.heap[k]?=W.heap[k]?):GAt K W' r c:=by
 obtain⟨d,I,Z,D⟩:=h;exact⟨d,I,by rw[G r hr (x6M Z)];exact Z,D⟩
theorem x0m.keep(h:x0m W B p rs)(L:W.heap.size<=W'.heap.size)(G:∀k,B<=k->k<W.heap.size->W'.heap[k]?=W.heap[k]?):x0m W' B p rs:=by
 obtain⟨o,K,N,R,Y,d,F,P,T,f,U,X,H,t,n,c1,c2,S,Z,D,J⟩:=h;refine⟨o,K,N,R,Y,d,F,P,T,f,U,X,H,t,n,c1,c2,S,by rw[G p D (x6M Z)];exact Z,D,⟨J.p1.keep L G,J.p2.keep L G,J.p3.keep L G,J.p4.keep L G,J.p5.keep L G,J.q1.keep L G,J.q2.keep L G,J.q3.keep L G,J.q4.keep L G,J.q5.keep L G,?_,?_⟩⟩
 ·obtain⟨I,r2,C,E,b1,u,i,A⟩:=J.co;exact⟨I,r2,C,E,b1,u,i.keep b1 G,A.keep u G⟩
 ·obtain⟨r,e,b,c,g⟩:=J.mi;exact⟨r,e,b,c,g.keep b G⟩
theorem x0m.lower{B'}(h:x0m W B p rs)(L:B'<=B):x0m W B' p rs:=by
 obtain⟨o,u,N,R,Y,d,A,P,T,f,U,X,C,t,n,c1,c2,S,Z,D,J⟩:=h;exact⟨o,u,N,R,Y,d,A,P,T,f,U,X,C,t,n,c1,c2,S,Z,f6J,J.p1.lower L,J.p2.lower L,J.p3.lower L,J.p4.lower L,J.p5.lower L,J.q1.lower L,J.q2.lower L,J.q3.lower L,J.q4.lower L,J.q5.lower L,J.co.lower L,J.mi.lower L⟩
end
open Ti
namespace Cn
def vget(rs:List Rec)(f c:Int):Int:=match hit rs f c with | some r=>value r | Option.none=>0
def rget(rs:List Rec)(f c:Int):Rec:=match hit rs f c with | some r=>r | Option.none=>none
end Cn
def y7h(w:World)(b:Bool)(e:Ending)(w':World):Prop:=e=.returned (.bool b)/\∃m,w'=w.drewN m
theorem tget{W B t rs}{f}(u:TrP W B t (Cn.rangesA (fun _ r=>Cn.value r) 1 (Cn.famOf f rs)))(y:(Cn.check6 rs).2=0)(z:f≠10/\f≠0) c(I:Fi c):Calls prog 38 #[t,.int .i64 c] W (x1a W (Cn.vget rs f c)):=by
 obtain⟨a,m,e,s,L,R⟩:=u;have Q:=(Cn.x0k.1 y).2.1;have N:=Cn.y7d y z (fun r A D=>Cn.x7r (Q r A) (fun e=>z.1 (by rw[<- D,e];exact e8M))) s L;have:=get4 t m 0 c W ⟨B,R⟩ I;rw[N.2 c]at this;exact this
theorem x3O{B p rs} c w(F:x0m w B p rs)(y:(Cn.check6 rs).2=0)(I:Rune c):Calls prog 16 #[.pointer (some ⟨p,0,none⟩),.int .i32 c] w (x1a w (Cn.vget rs 1 c)):=by
 obtain⟨o,u,N,R,Y,d,E,P,T,f,U,X,G,t,n,c1,c2,S,Z,D,J⟩:=F;obtain⟨l,H⟩:=I;have K:=O (tget J.p1 y e8N c ⟨f6J,f6J⟩);have x:w.cell? ⟨p,0,none⟩=some o:=cell_of (j:=0) Z (by show 0<18;exact f6J);obtain⟨a,m,e,-⟩:=J.p1;subst e;go_enter func16,ntmps16;exact R4l
theorem x8k{B p rs} c w(F:x0m w B p rs)(y:(Cn.check6 rs).2=0)(I:Rune c):Calls prog 161 #[.pointer (some ⟨p,0,none⟩),.int .i32 c] w (x1a w (Cn.vget rs 2 c)):=by
 obtain⟨o,u,N,R,Y,d,E,P,T,f,U,X,G,t,n,c1,c2,S,Z,D,J⟩:=F;obtain⟨l,H⟩:=I;have K:=O (tget J.p2 y e8N c ⟨f6J,f6J⟩);have x:w.cell? ⟨p,1,none⟩=some u:=cell_of (j:=1) Z (by show 1<18;exact f6J);obtain⟨a,m,e,-⟩:=J.p2;subst e;go_enter func161,ntmps161;exact R4l
theorem y7H{B p rs} c w(F:x0m w B p rs)(y:(Cn.check6 rs).2=0)(I:Rune c):Calls prog 167 #[.pointer (some ⟨p,0,none⟩),.int .i32 c] w (x1a w (Cn.vget rs 4 c)):=by
 obtain⟨o,u,N,R,Y,d,E,P,T,f,U,X,G,t,n,c1,c2,S,Z,D,J⟩:=F;obtain⟨l,H⟩:=I;have K:=O (tget J.p3 y e8N c ⟨f6J,f6J⟩);have x:w.cell? ⟨p,2,none⟩=some N:=cell_of (j:=2) Z (by show 2<18;exact f6J);obtain⟨a,m,e,-⟩:=J.p3;subst e;go_enter func167,ntmps167;exact R4l
theorem y9t{B p rs} c w(F:x0m w B p rs)(y:(Cn.check6 rs).2=0)(I:Rune c):Calls prog 311 #[.pointer (some ⟨p,0,none⟩),.int .i32 c] w (x1a w (Cn.vget rs 5 c)):=by
 obtain⟨o,u,N,R,Y,d,E,P,T,f,U,X,G,t,n,c1,c2,S,Z,D,J⟩:=F;obtain⟨l,H⟩:=I;have K:=O (tget J.p4 y e8N c ⟨f6J,f6J⟩);have x:w.cell? ⟨p,3,none⟩=some R:=cell_of (j:=3) Z (by show 3<18;exact f6J);obtain⟨a,m,e,-⟩:=J.p4;subst e;go_enter func311,ntmps311;exact R4l
theorem y9N{B p rs} c w(F:x0m w B p rs)(y:(Cn.check6 rs).2=0)(I:Rune c):Calls prog 218 #[.pointer (some ⟨p,0,none⟩),.int .i32 c] w (y7h w (Cn.vget rs 6 c != 0)):=by
 obtain⟨o,u,N,R,Y,d,E,P,T,f,U,X,G,t,n,c1,c2,S,Z,D,J⟩:=F;obtain⟨l,H⟩:=I;have K:=O (tget J.p5 y e8N c ⟨f6J,f6J⟩);have x:w.cell? ⟨p,4,none⟩=some Y:=cell_of (j:=4) Z (by show 4<18;exact f6J);obtain⟨a,m,e,-⟩:=J.p5;subst e;go_enter func218,ntmps218;exact R4l
namespace Cn
theorem y9A{k f}(h:fam k=f):(f=1->1<=k/\k<=5)/\(f=2->k=6)/\(3<f->k=f+5):=by
 subst h;unfold fam;split
 ·omega
 ·omega
variable {rs:List Rec}
theorem z1B{r}(h:6<=r.kind)(D:r.kind≠11):value r=r.n:=by
 unfold value;rw[if_neg f6J,if_neg f6J,if_neg f6J,if_neg f6J,if_neg D]
theorem z4B(y:(check6 rs).2=0) c:cls rs c=vget rs 2 c:=by
 unfold cls vget
 cases he:hit rs 2 c with
 | none=>rfl
 | some r =>
  have G:=(y9A ((x1N y e8N r).1 he).2.1).2.1 rfl;exact(z1B f6J f6J).symm
end Cn
structure Ovr(w w1 w4 W:World)(ao:Option Addr)(ps:List (Rec×Value))(k:Nat):Prop where
 sz:W.heap.size=w4.heap.size
 bel:Below w.heap.size w W
 far:∀b,w1.heap.size<=b->W.heap[b]?=w4.heap[b]?
 rcd:ps.length=0\/∃g cur,ao=some ⟨g,0,none⟩/\w.heap.size<=g/\g<w1.heap.size/\W.heap[g]?=some (.cells cur 60 (0,0))/\ps.length*8<=cur.size/\∀i,k<=i->i<ps.length->cur.getD (i*8+4) undef=(ps.getD i (Cn.none,undef)).2
 lst:∀q∈ps,q.1.to≠[]->∃gi capi cur,q.2=.slice (some ⟨gi,0,none⟩) q.1.to.length capi/\w.heap.size<=gi/\gi<w1.heap.size/\W.heap[gi]?=some (.cells cur 21 (0,0))/\q.1.to.length<=cur.size
section
variable {w w1 w4 W:World} {ao:Option Addr} {ps:List (Rec×Value)} {cap k:Nat}
theorem Ovr.start(h:Rown w1 w.heap.size (.slice ao ps.length cap) ps)(Y:Bw w w4)(a:Bw w1 w4):Ovr w w1 w4 w4 ao ps 0:=by
 refine⟨rfl,Y,fun k _=>rfl,?_,fun q y t=>?_⟩
 ·rcases h.1.2 with⟨_,R⟩ | ⟨g,A,Q,D,C,H,F,I,L,G⟩
  ·exact .inl R
  ·obtain⟨P,_,N⟩:=Value.slice.inj D;have E:g<w1.heap.size:=x6M H;refine .inr ⟨g,Q,P,C,E,by rw[a.block g E];exact H,f6J,fun i _ hi=>?_⟩;have e:=x1s ps i 4 hi f6J;have S:(x0A (ps.getD i (Cn.none,undef)))[4]?=some (ps.getD i (Cn.none,undef)).2:=rfl;rw[S,<- G,List.getElem?_take,if_pos f6J,Array.getElem?_toList]at e;rw[Array.getD_eq_getD_getElem?,e];rfl
 ·have o:=h.2 q y;rcases o.row.2 with⟨_,R⟩ | ⟨g,A,Q,D,C,H,F,I,L,G⟩
  ·grind
  ·have E:=(o.2.2.lt g (by rw[D];rfl)).2;exact⟨g,A,Q,D,C,E,by rw[a.block g E];exact H,f6J⟩
theorem y1K(W:World) a v:(W.setCell a v).heap.size=W.heap.size:=by
 unfold World.setCell;exact f1X
theorem Ovr.item(h:Ovr w w1 w4 W ao ps k){gi cur}(i:w.heap.size<=gi)(g2:gi<w1.heap.size)(H:W.heap[gi]?=some (.cells cur 21 (0,0))) j v:Ovr w w1 w4 (W.setCell ⟨gi,j,none⟩ v) ao ps k:=by
 refine⟨by rw[y1K];exact h.sz,x0b h.bel i v,fun b Y=>by rw[x0e v f6J];exact h.far b Y,?_,fun q y t=>?_⟩
 ·rcases h.rcd with R | ⟨S,J,e,M,o,T,A⟩
  ·exact .inl R
  ·refine .inr ⟨S,J,e,M,o,?_,A⟩;rw[x0e v (fun e=>by subst e;rw[H]at T;simp at T)];exact T
 ·obtain⟨S,D,J,P,E,N,I,U⟩:=h.lst q y t;by_cases C:S=gi
  ·subst C;rw[H]at I;simp only[Option.some.injEq,Obj.cells.injEq,and_true]at I;subst I;exact⟨S,D,_,P,E,N,x0c H v,by rw[Array.size_setIfInBounds];exact U⟩
  ·exact⟨S,D,J,P,E,N,by rw[x0e v C];exact I,U⟩
theorem z0B W g off(q:Rec×Value):(putR W g off q).heap.size=W.heap.size:=by
 unfold putR;simp only[y1K]
theorem Ovr.wipe(h:Ovr w w1 w4 W ao ps k){g}(C:ao=some ⟨g,0,none⟩)(G:k<ps.length)(q:Rec×Value):Ovr w w1 w4 (putR W g (k*8) q) ao ps (k+1):=by
 rcases h.rcd with R | ⟨S,Q,e,i,A,H,L,F⟩
 ·omega
 ·rw[C]at e;simp only[Option.some.injEq,Addr.mk.injEq,and_true]at e;subst e;refine⟨by rw[z0B];exact h.sz,x8G h.bel i q,fun b Y=>by rw[x9R q f6J];exact h.far b Y,.inr ⟨g,_,C,i,A,z0A H q,by rw[z1a];exact L,fun j X m=>?_⟩,fun p s t=>?_⟩
  ·rw[<- F j f6J m];simp only[Array.getD_eq_getD_getElem?];rw[z0Z Q (k*8) q f6J,if_neg f6J]
  ·obtain⟨M,D,J,P,E,N,I,U⟩:=h.lst p s t;refine⟨M,D,J,P,E,N,?_,U⟩;rw[x9R q (fun e=>by subst e;rw[H]at I;simp at I)];exact I
end
namespace Cn
def x1e(r:Rec):Bool :=
  if r.kind=1\/r.kind=2\/r.kind=11 then bare r false false false false false
  else if r.kind=3 then bare r false true false false false&&list r.to 1 24
  else if r.kind=4 then bare r true true false false false&&decide (1<=r.n/\r.n<=64)&&list r.to 1 1&&decide (r.to.getD 0 0+r.hi-r.lo<=1114111/\(r.to.getD 0 0+r.hi-r.lo<55296\/57343<r.to.getD 0 0))
  else if r.kind=5 then decide (r.lo=r.hi)&&scalar r.lo&&bare r false true false false false&&list r.to 0 24
  else if r.kind=13 then decide (r.lo=r.hi)&&scalar r.lo&&bare r false true false false false&&list r.to 1 24
  else if r.kind=6 then bare r true false false false false&&decide (1<=r.n/\r.n<=254)
  else if r.kind=7 then decide (r.lo=r.hi)&&scalar r.lo&&bare r false true false false false&&list r.to 2 2
  else if r.kind=8 then decide (r.lo=r.hi)&&scalar r.lo&&bare r false true false false false&&list r.to 1 2
  else if r.kind=9 then bare r true false false false false&&decide (0<=r.n/\r.n<=10)
  else if r.kind=10 then bare r true false false false false&&decide (0<=r.n/\r.n<=5)
  else if r.kind=12 then bare r false false true false false&&nameL r.name
  else bare r false false false false true&&weight r.wt
theorem y6F{r}(h:fam r.kind=0):right r=60:=by unfold right;rw[if_pos h]
theorem z4b{r}(h:r.kind=15):right r=ansG (decide (r.lo=0)&&decide (r.hi=0)&&bare r false false true true true&&nameL r.name&&nameL r.other&&decide (r.name≠r.other)&&weight r.wt):=by
 unfold right ansG;rw[if_neg s8h,if_pos h];simp[and_assoc]
theorem y6E{r}(R:fam r.kind≠0)(X:r.kind≠15):right r=ansG (decide (0<=r.lo/\r.lo<=r.hi/\r.hi<=1114111)&&x1e r):=by
 unfold right;rw[if_neg R,if_neg X];rfl
theorem y8E{k}(h:fam k≠0):1<=k/\k<=15:=by
 unfold fam at h;split at h
 ·exact absurd rfl h
 ·omega
end Cn
theorem q0V{r}(h:r.kind=1):Cn.x1e r=(Cn.bare r false false false false false):=S0O
theorem q0W{r}(h:r.kind=2):Cn.x1e r=(Cn.bare r false false false false false):=S0O
theorem q0X{r}(h:r.kind=3):Cn.x1e r=(Cn.bare r false true false false false&&Cn.list r.to 1 24):=S0O
theorem q0Y{r}(h:r.kind=4):Cn.x1e r=(Cn.bare r true true false false false&&decide (1<=r.n/\r.n<=64)&&Cn.list r.to 1 1&&decide (r.to.getD 0 0+r.hi-r.lo<=1114111/\(r.to.getD 0 0+r.hi-r.lo<55296\/57343<r.to.getD 0 0))):=S0O
theorem q0Z{r}(h:r.kind=5):Cn.x1e r=((decide (r.lo=r.hi)&&Cn.scalar r.lo)&&Cn.bare r false true false false false&&Cn.list r.to 0 24):=S0O
theorem q1a{r}(h:r.kind=6):Cn.x1e r=(Cn.bare r true false false false false&&decide (1<=r.n/\r.n<=254)):=S0O
theorem q1b{r}(h:r.kind=7):Cn.x1e r=((decide (r.lo=r.hi)&&Cn.scalar r.lo)&&Cn.bare r false true false false false&&Cn.list r.to 2 2):=S0O
theorem q1c{r}(h:r.kind=8):Cn.x1e r=((decide (r.lo=r.hi)&&Cn.scalar r.lo)&&Cn.bare r false true false false false&&Cn.list r.to 1 2):=S0O
theorem q1d{r}(h:r.kind=9):Cn.x1e r=(Cn.bare r true false false false false&&decide (0<=r.n/\r.n<=10)):=S0O
theorem z8f{r}(h:r.kind=10):Cn.x1e r=(Cn.bare r true false false false false&&decide (0<=r.n/\r.n<=5)):=S0O
theorem z8g{r}(h:r.kind=11):Cn.x1e r=(Cn.bare r false false false false false):=S0O
theorem z8h{r}(h:r.kind=12):Cn.x1e r=(Cn.bare r false false true false false&&Cn.nameL r.name):=S0O
theorem z8i{r}(h:r.kind=13):Cn.x1e r=((decide (r.lo=r.hi)&&Cn.scalar r.lo)&&Cn.bare r false true false false false&&Cn.list r.to 1 24):=S0O
theorem z8j{r}(h:r.kind=14):Cn.x1e r=(Cn.bare r false false false false true&&Cn.weight r.wt):=S0O
theorem y1B:z4N:=by
 intro r M w z L;obtain⟨ao,J,rfl,g,_⟩:=L.shape;unfold recV;by_cases R:Cn.fam r.kind=0
 ·rw[Cn.y6F R];exact z7S r.kind r.lo r.hi r.n ao r.to.length J r.name r.other r.wt w z.kind R
 ·have C:Hid (∀W s F t o c,Bw w W->Calls prog 122 #[recV r (.slice ao r.to.length J),.bool s,.bool F,.bool t,.bool o,.bool c] W (x0g W (Cn.bare r s F t o c))):=fun W s F t o c h=>y3d r _ s F t o c W (L.below h);unfold recV at C;have KN:Hid (∀W,Calls prog 123 #[.string r.name] W fun e D=>e=.returned (.bool (Cn.nameL r.name))/\D=W):=fun W=>x5D r.name W;have U:Hid (∀W,Calls prog 124 #[.float .f64 r.wt] W fun e D=>e=.returned (.bool (Cn.weight r.wt))/\D=W):=fun W=>x9W r.wt W z.wt;by_cases X:r.kind=15
  ·rw[Cn.z4b X];have d:Hid (∀W,Calls prog 123 #[.string r.other] W fun e D=>e=.returned (.bool (Cn.nameL r.other))/\D=W):=fun W=>x5D r.other W;rw[X]at C ⊢;exact rw_15 r.lo r.hi r.n ao r.to.length J r.name r.other r.wt w z.lo z.hi _ _ _ _ (fun W h=>V C W false false true true true h) KN d U
  ·have KL:∀a b:Nat,Hid (∀W,Bw w W->Calls prog 126 #[.slice ao r.to.length J,.int .i64 a,.int .i64 b] W fun e D=>e=.returned (.bool (Cn.list r.to a b))/\D=W):=fun a b W h=>y3e _ r.to a b W (L.below h) z.len;have G:=Cn.y8E R;rw[Cn.y6E R X];have hd:decide (0<=r.lo/\r.lo<=r.hi/\r.hi<=1114111)=decide (0<=r.lo/\r.lo<=r.hi/\r.hi<=1114111):=rfl;have A:∀{a b:Bool},a=b->ansG (decide (0<=r.lo/\r.lo<=r.hi/\r.hi<=1114111)&&a)=ansG (decide (0<=r.lo/\r.lo<=r.hi/\r.hi<=1114111)&&b):=fun h=>(by rw[h]);have l:Hid (decide (0<=r.lo/\r.lo<=r.hi/\r.hi<=1114111)=true->(decide (r.lo=r.hi)&&Cn.scalar r.lo)=(decide (r.lo=r.hi)&&Cn.scalar r.lo)):=fun _=>rfl;have K:(r.kind=1\/r.kind=2)\/(r.kind=11\/r.kind=3)\/(r.kind=5\/r.kind=13)\/(r.kind=6\/r.kind=9)\/(r.kind=7\/r.kind=8)\/(r.kind=12\/r.kind=14)\/(r.kind=4)\/(r.kind=10):=f6J;rcases K with hk1 | hk1 | hk1 | hk1 | hk1 | hk1 | hk1 | hk1
   ·exact rwg_a r.kind r.lo r.hi r.n hk1 ao r.to.length J r.name r.other r.wt w z.lo z.hi _ _ _ hd l (Cn.bare r) C (fun e=>A (q0V e)) (fun e=>A (q0W e))
   ·exact rwg_b r.kind r.lo r.hi r.n hk1 ao r.to.length J r.name r.other r.wt w z.lo z.hi _ _ _ hd l (Cn.bare r) C _ (KL 1 24) (fun e=>A (z8g e)) (fun e=>A (q0X e))
   ·exact rwg_c r.kind r.lo r.hi r.n hk1 ao r.to.length J r.name r.other r.wt w z.lo z.hi _ _ _ hd l (Cn.bare r) C _ (KL 0 24) _ (KL 1 24) (fun e=>A (q0Z e)) (fun e=>A (z8i e))
   ·exact rwg_f r.kind r.lo r.hi r.n hk1 ao r.to.length J r.name r.other r.wt w z.lo z.hi z.n _ _ _ hd l (Cn.bare r) C (decide (1<=r.n/\r.n<=254)) (fun h=>o0d h) (fun h=>g2b) (decide (0<=r.n/\r.n<=10)) (fun h=>o0d h) (fun h=>g2b) (fun e=>A (q1a e)) (fun e=>A (q1d e))
   ·exact rwg_d r.kind r.lo r.hi r.n hk1 ao r.to.length J r.name r.other r.wt w z.lo z.hi _ _ _ hd l (Cn.bare r) C _ (KL 2 2) _ (KL 1 2) (fun e=>A (q1b e)) (fun e=>A (q1c e))
   ·exact rwg_h r.kind r.lo r.hi r.n hk1 ao r.to.length J r.name r.other r.wt w z.lo z.hi _ _ _ hd l (Cn.bare r) C _ KN _ U (fun e=>A (z8h e)) (fun e=>A (z8j e))
   ·have E:Hid (Cn.list r.to 1 1=true->Rune (r.to.getD 0 0)/\∃b P,ao=some ⟨b,P,none⟩/\r.to.length=1/\r.to.length<=J/\∀W,Bw w W->W.cell? ⟨b,P,none⟩=some (.int .i32 (r.to.getD 0 0))):=fun h=>by
     unfold Cn.list at h;rw[Bool.and_eq_true]at h;have Z:=o0d h.1;have S:r.to.length=1:=f6J;obtain⟨b,P,cap,q,c1,c2,I⟩:=L.place f6J;simp only[Value.slice.injEq,true_and]at q;obtain⟨rfl,rfl⟩:=q;refine⟨x0R L f6J,b,P,rfl,S,g,fun W H=>?_⟩;have T:=I 0 f6J;rw[Nat.add_zero]at T;rw[H.cell (x0a T)];exact T
    exact rwg_e r.kind r.lo r.hi r.n hk1 ao r.to.length J r.name r.other r.wt w z.lo z.hi z.n _ _ _ hd l (Cn.bare r) C _ (KL 1 1) (r.to.getD 0 0) E (decide (r.to.getD 0 0+r.hi-r.lo<=1114111/\(r.to.getD 0 0+r.hi-r.lo<55296\/57343<r.to.getD 0 0))) (fun h=>o0d h) (fun h=>g2b) (decide (1<=r.n/\r.n<=64)) (fun h=>o0d h) (fun h=>g2b) (fun e=>A (q0Y e))
   ·exact rwg_g r.kind r.lo r.hi r.n hk1 ao r.to.length J r.name r.other r.wt w z.lo z.hi z.n _ _ _ hd l (Cn.bare r) C (decide (0<=r.n/\r.n<=5)) (fun h=>o0d h) (fun h=>g2b) (fun e=>A (z8f e))
theorem z0I:y1Y:=x9U y1B y1z
theorem z0J:y7o:=y1y z0I x9V
namespace Cn
theorem x4I{l}(h:(check l).2=0):(check l).1=0:=by
 unfold check at h ⊢;by_cases Z:(check6 l).2≠0
 ·grind
 ·rw[if_neg Z]at h ⊢
  cases hx:x0Q l 0 l with
  | some x=>rw[hx]at h;exact absurd h (x3J _ _ _ hx)
  | none=>grind
end Cn
theorem y3a{w1 B v}{ps:List (Rec×Value)}{rs}(hr:Rown w1 B v ps)(s:ps.map (·.1)=rs)(S:rs.length<=1000000000)(z:∀r∈rs,RecFit r):Rcs w1 v rs:=by
 subst s;exact hr.rcs t2Y fun p U=>z _ (List.mem_map.2 ⟨p,U,rfl⟩)
theorem Rown.lower9{w B B' v}{ps:List (Rec×Value)}(h:Rown w B v ps)(Y:B'<=B):Rown w B' v ps:=⟨z0S h.1 Y,fun p s=>(h.2 p s).lower Y⟩
def z8J(w:World)(rs:List Rec)(e:Ending)(w':World):Prop:=Below w.heap.size w w'/\((¬(Cn.check rs).2=0/\e=.returned (.tuple #[.pointer none,.slice none 0 0,.int .i64 0]))\/((Cn.check rs).2=0/\∃p v ps,e=.returned (.tuple #[.pointer (some ⟨p,0,none⟩),v,.int .i64 1])/\x0m w' w.heap.size p rs/\Rown w' w.heap.size v ps/\ps.map (·.1)=rs))
theorem y4t v rs0 w(hg:Glob w)(N:Rcs w v rs0):Calls prog 8 #[v] w (z8J w (rs0.take 150)):=by
 have aM:=N.1;obtain⟨ao,cap,rfl,aR,aS⟩:=N.shape;obtain⟨n,hn⟩:∃n,n=min rs0.length 150:=⟨_,rfl⟩;have aN:min (rs0.length:Int) 150=(n:Int):=f6J;have aH:n<=rs0.length:=f6J;have aX:n<=150:=f6J;have J:rs0.take 150=rs0.take n:=(by rw[hn,List.take_eq_take_min,Nat.min_comm]);have hH:=N.head aH;rw[J];have s:∀r∈rs0.take n,RecFit r:=fun r hr=>N.2.1 r (List.mem_of_mem_take hr);have aI:(rs0.take n).length=n:=U3z;clear J hn N;generalize rs0.take n=rs,rs0.length=L at *;have K1:=O (x4p _ _ w hH);have E:=O s;have Z:=O aI;have HG:=O hg;go_enter func8,ntmps8;go_wp2_with fail;refine(V K1).mono ?_;rintro e1 w1 ⟨v1,A,rfl,p1,r1,b1⟩;have P:=y3a r1 p1 (by rw[V Z];exact f6J) (V E);have K2:=O (x4p _ _ w1 P);obtain⟨a1,G,d,_,aK⟩:=P.shape;rw[V Z]at d;have af:A.length=n:=(by have:=congrArg List.length p1;rw[List.length_map,V Z]at this;exact this);subst d;have S:=O P;have ag:=O r1;have l:=O b1;have c:=O af;go_wp2_with fail;refine(V K2).mono ?_;rintro e2 w2 ⟨v2,aJ,rfl,p2,r2,b2⟩;have R2:=y3a r2 p2 (by rw[V Z];exact f6J) (V E);have K3:=O (z0J _ _ w2 R2);obtain⟨a2,aC,X,_,aL⟩:=R2.shape;rw[V Z]at X;subst X;have y:=O R2;have ar:=O r2;have T:=O b2;go_wp2_with fail;refine c0m K3 fun w3 z=>?_;have ab:=O z;have K4:=O (y2o _ rs w3 (((V HG).on (V l)).on (bthen (V T) z)) ((V S).below (bthen (V T) z)));go_wp2_with fail;refine(V K4).mono ?_;rintro e4 w4 ⟨b4,h4⟩;have u:=O b4;have K5:=O (y3k _ _ rs w4 ((V S).below (bthen (bthen (V T) (V ab)) b4)) ((V y).below (bthen (V ab) b4)));rcases h4 with⟨aj,rfl⟩ | ⟨R,p,rfl,hD⟩
 ·have aq:=O aj;have hq:((Cn.check rs).2 != 0)=true:=bne_iff_ne.2 aj;generalize hck:Cn.check rs=q at *;have I:=O hck;obtain⟨q1,q2⟩:=q;simp only at hq;go_wp2_with(go_at_call 23;refine(V K5).mono ?_;rintro e5 w5 ⟨rfl,b5⟩;have Y:=O b5;clear K5 b5);go_ret3;exact⟨bthen (bthen (V l) (bthen (bthen (V T) (V ab)) (V u))) (V Y),.inl ⟨by rw[V I];exact V aq,rfl⟩⟩
 ·have hz:=Cn.x4I R;have aQ:=O R;have HD:=O hD;generalize hck:Cn.check rs=q at *;have I:=O hck;obtain⟨q1,q2⟩:=q;simp only at R hz;subst R hz;go_wp2_with(go_at_call 23;refine(V K5).mono ?_;rintro e5 w5 ⟨rfl,b5⟩;have Y:=O b5;clear K5 b5);have C:=O (bthen (bthen (bthen (V T) (V ab)) (V u)) (V Y));have aA:=O (Ovr.start (w:=w) (w1:=w1) (w4:=w5) (cap:=G) (ao:=a1) (ps:=A) (by rw[V c];exact V ag) (bthen (V l) (V C)) (V C))
  have am:Hid (∀k,k<n->∃ak F,(A.getD k (Cn.none,undef)).2=.slice ak (A.getD k (Cn.none,undef)).1.to.length F/\(A.getD k (Cn.none,undef)).1.to.length<=140737488355328/\F<=9223372036854775807/\(A.getD k (Cn.none,undef)).1.to.length<=F):=fun k hk=>by
   have o:A.getD k (Cn.none,undef)∈A:=by
    have:=V c;simp[List.getD,(f6J:k<A.length)]
   obtain⟨ak,F,e,h1,h2⟩:=((V ag).2 _ o).sk.shape;exact⟨ak,F,e,((V ag).2 _ o).sk.len,h2,h1⟩
  have t:Hid (∀W k,Ovr w w1 w5 W a1 A k->z8J w rs (.returned (.tuple #[.pointer (some ⟨p,0,none⟩),.slice a2 n aC,.int .i64 1])) W):=fun W k hO=>by
   have aO:=(V T).size;have aP:=(bthen (V T) (V ab)).size;have be:=(V l).size;refine⟨hO.bel,.inr ⟨by rw[V I],p,_,aJ,rfl,?_,?_,p2⟩⟩
   ·exact(((V HD).below (V Y)).keep (by rw[hO.sz];exact l0r _) (fun b hb _=>hO.far b f6J)).lower f6J
   ·exact(((V ar).on7 (bthen (bthen (V ab) (V u)) (V Y))).far7 (fun b hb _=>hO.far b hb)).lower9 f6J
  go_loopw[12,13] (fun ii _ wr=>∃k:Nat,ii=.int .i64 k/\k<=n/\Ovr w w1 w5 wr a1 A k) (fun ii _ _=>n-(intOf ii).toNat)
  case atStart=>exact⟨0,rfl,f6J,V aA⟩
  case round =>
   obtain⟨k,rfl,hk,hO⟩:=hrel;by_cases aG:k<n
   ·have af:=V c;obtain⟨ak,F,i,aY,aZ,ba⟩:=V am k aG;have o:A.getD k (Cn.none,undef)∈A:=by simp[List.getD,(f6J:k<A.length)]
    obtain⟨g,aF⟩:∃g,a1=some ⟨g,0,none⟩:=by
     rcases hO.rcd with R | ⟨g,Q,e,_⟩
     ·omega
     ·exact⟨g,e⟩
    subst aF
    have K:Hid (∀W,Ovr w w1 w5 W (some ⟨g,0,none⟩) A k->W.cell? ⟨g,k*8+4,none⟩=some (A.getD k (Cn.none,undef)).2/\∃Q,W.heap[g]?=some (.cells Q 60 (0,0))/\k*8+8<=Q.size):=fun W h=>by
     rcases h.rcd with R | ⟨g',Q,e,_,_,H,hs,hc⟩
     ·omega
     ·simp only[Option.some.injEq,Addr.mk.injEq,and_true]at e;subst e;exact⟨by rw[cell_of (j:=k*8+4) H f6J,hc k (l0r _) f6J],Q,H,f6J⟩
    have ai:Hid (∀W,Ovr w w1 w5 W (some ⟨g,0,none⟩) A k->(A.getD k (Cn.none,undef)).1.to≠[]->∃M D Q,(A.getD k (Cn.none,undef)).2=.slice (some ⟨M,0,none⟩) (A.getD k (Cn.none,undef)).1.to.length D/\w.heap.size<=M/\M<w1.heap.size/\W.heap[M]?=some (.cells Q 21 (0,0))/\(A.getD k (Cn.none,undef)).1.to.length<=Q.size):=fun W h=>h.lst _ o;have U:Hid (∀W,Ovr w w1 w5 W (some ⟨g,0,none⟩) A k->Ovr w w1 w5 (putR W g (k*8) (Cn.none,.slice none 0 0)) (some ⟨g,0,none⟩) A (k+1)):=fun W h=>h.wipe rfl f6J _;have HO:=O hO;rw[i]at K ai;generalize hql:(A.getD k (Cn.none,undef)).1.to.length=tl at *;have aB:=O hql;go_upto_block 2 with fail;go_cut[13] (fun _ wc=>Ovr w w1 w5 wc (some ⟨g,0,none⟩) A k)
    case first =>
     go_wp2;go_loopw[13] (fun jj wd=>∃j:Nat,jj=.int .i64 j/\j<=tl/\Ovr w w1 w5 wd (some ⟨g,0,none⟩) A k) (fun jj _=>tl-(intOf jj).toNat)
     case atStart=>exact⟨0,rfl,f6J,V HO⟩
     case round =>
      obtain⟨j,rfl,hj,ae⟩:=hrel;obtain⟨aD,-⟩:=V K wr ae;by_cases aW:j<tl
      ·obtain⟨M,D,Q,e,g1,g2,H,f⟩:=V ai wr ae (fun e=>by have:=V aB;rw[e]at this;simp at this;exact f6J);obtain⟨e1,e2,e3⟩:=Value.slice.inj e;subst e1 e3;have aT:=cell_of (j:=j) H f6J;have aV:=x0d (j:=j) H;have az:=O (ae.item g1 g2 H j (.int .i32 65));generalize Q.getD j undef=uj at *;go_wp2
       go_roundw
       case rel=>exact⟨j+1,g2A,f6J,V az⟩
       case measure=>exact g7T
      ·have aw:=O ae;go_wp2
       go_meet
       case rel=>exact V aw
    case rest =>
     obtain⟨aD,Q,H,f⟩:=V K wc hcut;have HW:=O (V U wc hcut);have y0:=cell_of (j:=k*8) H f6J;have y1:=cell_of (j:=k*8+1) H f6J;have y2:=cell_of (j:=k*8+2) H f6J;have y3:=cell_of (j:=k*8+3) H f6J;have y5:=cell_of (j:=k*8+5) H f6J;have y6:=cell_of (j:=k*8+6) H f6J;have y7:=cell_of (j:=k*8+7) H f6J;have fz:=fun j=>x0d (j:=j) H;have aU:∀W a m,(store a (.float .f64 0) m).run prog W=stored prog W a (.float .f64 0) m:=fun W a m=>run_store prog W a _ m rfl;generalize Q.getD (k*8) undef=uy0,Q.getD (k*8+1) undef=uy1,Q.getD (k*8+2) undef=uy2,Q.getD (k*8+3) undef=uy3,Q.getD (k*8+5) undef=uy5,Q.getD (k*8+6) undef=uy6,Q.getD (k*8+7) undef=bh at *;go_wp2;exact⟨⟨k+1,g2A,f6J,V HW⟩,by simp[intOf];exact f6J⟩
   ·obtain rfl:k=n:=f6J;have HF:=O (V t wr k hO);go_wp2;go_ret3;exact V HF
namespace Cn
def mk3(k lo hi:Int):Rec:=⟨k,lo,hi,0,[],⟨#[]⟩,⟨#[]⟩,0⟩
def x2c:List Rec:=[mk3 1 97 122,mk3 1 48 57,mk3 1 45 46,⟨4,65,90,1,[97],⟨#[]⟩,⟨#[]⟩,0⟩,mk3 1 224 224,mk3 1 768 768,⟨7,224,224,0,[97,768],⟨#[]⟩,⟨#[]⟩,0⟩,⟨6,768,768,230,[],⟨#[]⟩,⟨#[]⟩,0⟩,mk3 11 768 768,⟨14,224,224,0,[],⟨#[]⟩,⟨#[]⟩,4591870180066957722⟩]
theorem y1d:check x2c=(0,0):=M3j
end Cn
def lpsA:List (Rec×Value):=[(Cn.mk3 1 97 122,.slice none 0 0),(Cn.mk3 1 48 57,.slice none 0 0),(Cn.mk3 1 45 46,.slice none 0 0)]
def lpsB(n:Nat):List (Rec×Value):=[(⟨4,65,90,1,[97],⟨#[]⟩,⟨#[]⟩,0⟩,.slice (some ⟨n,0,none⟩) 1 1),(Cn.mk3 1 224 224,.slice none 0 0),(Cn.mk3 1 768 768,.slice none 0 0)]
def lpsC(n:Nat):List (Rec×Value):=[(⟨7,224,224,0,[97,768],⟨#[]⟩,⟨#[]⟩,0⟩,.slice (some ⟨n,0,none⟩) 2 2),(⟨6,768,768,230,[],⟨#[]⟩,⟨#[]⟩,0⟩,.slice none 0 0),(Cn.mk3 11 768 768,.slice none 0 0),(⟨14,224,224,0,[],⟨#[]⟩,⟨#[]⟩,4591870180066957722⟩,.slice none 0 0)]
theorem x9O(w:World) B(m:B<=w.heap.size) c(I:-2147483648<=c/\c<=2147483647):Ok .i32 21 (w.alloc (.cells #[.int .i32 c] 21)) B (.slice (some ⟨w.heap.size,0,none⟩) 1 1) [c]:=by
 refine⟨fun z T=>by simp at T;subst T;exact x1j I,M7K,M7K,.inr ⟨w.heap.size,1,#[.int .i32 c],rfl,m,?_,l0r _,by unfold maxLen;exact M7K,M7K,M7K⟩⟩;exact R0n
theorem z7k(W:World) B(m:B<=W.heap.size)(ps:List (Rec×Value)) n(F:ps.length=n)(L:n<=100):(W.alloc (.cells (rcells ps).toArray 60)).ownsRow B 60 8 (.slice (some ⟨W.heap.size,0,none⟩) n n) n (rcells ps):=by
 subst F;refine⟨x1d ps,.inr ⟨W.heap.size,ps.length,(rcells ps).toArray,rfl,m,?_,l0r _,T7W,by rw[List.size_toArray,x1d],?_⟩⟩
 ·show(W.heap.push _)[W.heap.size]?=_;simp
 ·exact List.take_of_length_le (by rw[x1d];exact l0r _)
theorem y4s(W:World)(ps:List (Rec×Value)):∀j u,(rcells ps)[j]?=some u->(W.alloc (.cells (rcells ps).toArray 60)).cell? ((⟨W.heap.size,0,none⟩:Addr).add j)=some u:=by
 intro j u h
 have H:(W.alloc (.cells (rcells ps).toArray 60)).heap[W.heap.size]?=some (.cells (rcells ps).toArray 60 (0,0)):=by
  show(W.heap.push _)[W.heap.size]?=_;simp
 rw[addr_add,Nat.zero_add];have X:j<(rcells ps).length:=(List.getElem?_eq_some_iff.1 h).1;rw[cell_of (j:=j) H R1Z];rw[Array.getD_eq_getD_getElem?,List.getElem?_toArray,h];rfl
theorem x2f(ps A:List (Rec×Value)):rcells ps++rcells A=rcells (ps++A):=by unfold rcells;rw[List.flatMap_append]
theorem y1G{W1 W2 B v v'}{ps A:List (Rec×Value)}(F:Rown W1 B v ps)(y:∀q∈A,Ok .i32 21 W1 B q.2 q.1.to)(J:W2.ownsRow B 60 8 v' (ps.length+A.length) (rcells ps++rcells A))(C:W1.grownBy W2 v.ownBlock):Rown W2 B v' (ps++A):=by
 refine⟨by rw[List.length_append,<- x2f];exact J,fun p hp=>?_⟩;have S:∀p:Rec×Value,Ok .i32 21 W1 B p.2 p.1.to->Ok .i32 21 W2 B p.2 p.1.to:=fun p n=>n.keep fun g h=>C.block g (n.2.2.lt g h).2 (fun e=>x0K n.2.2 F.1 e8M h e.symm);rcases List.mem_append.1 hp with hp | hp
 ·exact S p (F.2 p hp)
 ·exact S p (y p hp)
theorem z0i(ps:List (Rec×Value))(h:∀p∈ps,p.2.oneCell'=true):∀u∈rcells ps,u.oneCell'=true:=by
 intro u A;obtain⟨p,s,A⟩:=List.mem_flatMap.1 A;exact x7l p.1 (h p s) u A
theorem Rown.alloc9{W B v}{ps:List (Rec×Value)}(h:Rown W B v ps) o:Rown (W.alloc o) B v ps:=h.on7 ((b0r).alloc (l0r _) o)
theorem y6c w:Calls prog 24 #[] w (x6s w Cn.x2c):=by
 obtain⟨i1,hj,aq,H,S⟩:=info_parts Tryz.info60;obtain⟨d,Q⟩:∃d,w.alloc (.cells (rcells lpsA).toArray 60)=d:=⟨_,rfl⟩
 have hA:Rown d w.heap.size (.slice (some ⟨w.heap.size,0,none⟩) 3 3) lpsA:=by
  rw[<- Q];refine⟨z7k w w.heap.size (l0r _) lpsA 3 rfl f6J,fun p s=>?_⟩;simp only[lpsA,List.mem_cons,List.mem_nil_iff,or_false]at s;rcases s with rfl | rfl | rfl<;>exact Ok.nil _ _ _ _
 have aC:Bw w d:=(by rw[<- Q];exact(b0r).alloc (l0r _) _);have b:d.heap.size=w.heap.size+1:=(by rw[<- Q];exact M7N);obtain⟨U,X⟩:∃U,d.alloc (.cells #[.int .i32 97] 21)=U:=⟨_,rfl⟩;have aD:Bw w U:=(by rw[<- X];exact aC.alloc f6J _);have aK:U.heap.size=w.heap.size+2:=by rw[<- X];exact P8P
 have T:Ok .i32 21 U w.heap.size (.slice (some ⟨w.heap.size+1,0,none⟩) 1 1) [97]:=by
  have:=x9O d w.heap.size f6J 97 f6J;rw[X,b]at this;exact this
 have aB:Rown U w.heap.size (.slice (some ⟨w.heap.size,0,none⟩) 3 3) lpsA:=(by rw[<- X];exact hA.alloc9 _);obtain⟨f,L⟩:∃f,U.alloc (.cells (rcells (lpsB (w.heap.size+1))).toArray 60)=f:=⟨_,rfl⟩;have aF:Bw w f:=(by rw[<- L];exact aD.alloc f6J _);have aO:f.heap.size=w.heap.size+3:=(by rw[<- L];exact P8P);have C:=y4s U (lpsB (w.heap.size+1));rw[L,aK]at C;have z:Rown f w.heap.size (.slice (some ⟨w.heap.size,0,none⟩) 3 3) lpsA:=by rw[<- L];exact aB.alloc9 _
 have aI:∀q∈lpsB (w.heap.size+1),Ok .i32 21 f w.heap.size q.2 q.1.to:=fun q y=>by
  simp only[lpsB,List.mem_cons,List.mem_nil_iff,or_false]at y;rcases y with rfl | rfl | rfl
  ·rw[<- L];exact T.below ((b0r).alloc (l0r _) _)
  ·exact n7f
  ·exact n7f
 have t:=z0i (lpsB (w.heap.size+1)) (fun p s=>by
  simp only[lpsB,List.mem_cons,List.mem_nil_iff,or_false]at s
  rcases s with rfl | rfl | rfl<;>rfl)
 have ae:=O z;have az:Hid (f.ownsRow w.heap.size 60 8 (.slice (some ⟨w.heap.size,0,none⟩) 3 3) 3 (rcells lpsA)):=z.1;have G:=O aI;have F:=O C;have o:=O t;have ar:=O aF;replace Q:w.alloc (.cells #[.int .i64 1,.int .i64 97,.int .i64 122,.int .i64 0,.slice none 0 0,.string ⟨#[]⟩,.string ⟨#[]⟩,.float .f64 0,.int .i64 1,.int .i64 48,.int .i64 57,.int .i64 0,.slice none 0 0,.string ⟨#[]⟩,.string ⟨#[]⟩,.float .f64 0,.int .i64 1,.int .i64 45,.int .i64 46,.int .i64 0,.slice none 0 0,.string ⟨#[]⟩,.string ⟨#[]⟩,.float .f64 0] 60)=d:=Q;replace L:U.alloc (.cells #[.int .i64 4,.int .i64 65,.int .i64 90,.int .i64 1,.slice (some ⟨w.heap.size+1,0,none⟩) 1 1,.string ⟨#[]⟩,.string ⟨#[]⟩,.float .f64 0,.int .i64 1,.int .i64 224,.int .i64 224,.int .i64 0,.slice none 0 0,.string ⟨#[]⟩,.string ⟨#[]⟩,.float .f64 0,.int .i64 1,.int .i64 768,.int .i64 768,.int .i64 0,.slice none 0 0,.string ⟨#[]⟩,.string ⟨#[]⟩,.float .f64 0] 60)=f:=L;go_enter func24,ntmps24;go_wp2_with(at_builtin;refine wpList_append_own _ rfl (.tmp 6) (.tmp 11) 22 rfl w.heap.size 60 i1 (.agg #[.int .i64 0,.int .i64 0,.int .i64 0,.int .i64 0,.slice none 0 0,.string ⟨#[]⟩,.string ⟨#[]⟩,.float .f64 0]) 8 96 underlying22 hj aq H S rfl e8P _ _ _ rfl (V az) ⟨w.heap.size+2,0,none⟩ 3 3 (rcells (lpsB (w.heap.size+1))) rfl (by rw[x1d];rfl) (V F) (V o) T7X f6J f6J ?_);intro I A D ab _;have ag:Rown A w.heap.size I (lpsA++lpsB (w.heap.size+1)):=y1G (V ae) (V G) D ab;have J:Bw w A:=(V ar).grown ab f6J (fun k hk=>((V ae).1.lt k hk).1);have am:=J.size
 have E:∃g cap,I=.slice (some ⟨g,0,none⟩) 6 cap:=by
  rcases D.2 with⟨_,h0⟩ | ⟨g,cap,aM,e,_⟩
  ·omega
  ·exact⟨g,cap,e⟩
 obtain⟨af,l,rfl⟩:=E;obtain⟨m,hm⟩:∃m,A.heap.size=m:=⟨_,rfl⟩;obtain⟨i,Y⟩:∃i,A.alloc (.cells #[.int .i32 97,.int .i32 768] 21)=i:=⟨_,rfl⟩;have aG:Bw w i:=(by rw[<- Y];exact J.alloc f6J _);have aL:i.heap.size=m+1:=by rw[<- Y];exact P8P
 have aH:Ok .i32 21 i w.heap.size (.slice (some ⟨m,0,none⟩) 2 2) [97,768]:=by
  have:=(ok_two A 97 768 f6J f6J).lower am;rw[Y,hm]at this;exact this
 obtain⟨j,M⟩:∃j,i.alloc (.cells (rcells (lpsC m)).toArray 60)=j:=⟨_,rfl⟩;have P:Bw w j:=(by rw[<- M];exact aG.alloc f6J _);have aP:j.heap.size=m+2:=(by rw[<- M];exact P8P);have C:=y4s i (lpsC m);rw[M,aL]at C;have aj:Rown j w.heap.size (.slice (some ⟨af,0,none⟩) 6 l) (lpsA++lpsB (w.heap.size+1)):=by rw[<- M,<- Y];exact(ag.alloc9 _).alloc9 _
 have aJ:∀q∈lpsC m,Ok .i32 21 j w.heap.size q.2 q.1.to:=fun q y=>by
  simp only[lpsC,List.mem_cons,List.mem_nil_iff,or_false]at y;rcases y with rfl | rfl | rfl | rfl
  ·rw[<- M];exact aH.below ((b0r).alloc (l0r _) _)
  ·exact n7f
  ·exact n7f
  ·exact n7f
 have u:=z0i (lpsC m) (fun p s=>by
  simp only[lpsC,List.mem_cons,List.mem_nil_iff,or_false]at s
  rcases s with rfl | rfl | rfl | rfl<;>rfl)
 have aA:Hid (j.ownsRow w.heap.size 60 8 (.slice (some ⟨af,0,none⟩) 6 l) 6 (rcells (lpsA++lpsB (w.heap.size+1)))):=aj.1;have K:=O aj;have aw:=O aJ;have F:=O C;have r:=O u;have Z:=O P;have aN:w.heap.size<=m:=f6J;replace M:i.alloc (.cells #[.int .i64 7,.int .i64 224,.int .i64 224,.int .i64 0,.slice (some ⟨m,0,none⟩) 2 2,.string ⟨#[]⟩,.string ⟨#[]⟩,.float .f64 0,.int .i64 6,.int .i64 768,.int .i64 768,.int .i64 230,.slice none 0 0,.string ⟨#[]⟩,.string ⟨#[]⟩,.float .f64 0,.int .i64 11,.int .i64 768,.int .i64 768,.int .i64 0,.slice none 0 0,.string ⟨#[]⟩,.string ⟨#[]⟩,.float .f64 0,.int .i64 14,.int .i64 224,.int .i64 224,.int .i64 0,.slice none 0 0,.string ⟨#[]⟩,.string ⟨#[]⟩,.float .f64 4591870180066957722] 60)=j:=M;go_wp2_with(at_builtin;refine wpList_append_own _ rfl (.tmp 13) (.tmp 19) 22 rfl w.heap.size 60 i1 (.agg #[.int .i64 0,.int .i64 0,.int .i64 0,.int .i64 0,.slice none 0 0,.string ⟨#[]⟩,.string ⟨#[]⟩,.float .f64 0]) 8 96 underlying22 hj aq H S rfl e8P _ _ _ rfl (V aA) ⟨m+1,0,none⟩ 4 4 (rcells (lpsC m)) rfl (by rw[x1d];rfl) (V F) (V r) T7X f6J f6J ?_);intro c R a n _;have ai:Rown R w.heap.size c (lpsA++lpsB (w.heap.size+1)++lpsC m):=y1G (V K) (V aw) a n;have N:Bw w R:=(V Z).grown n f6J (fun k hk=>((V K).1.lt k hk).1);have HF:Hid (x6s w Cn.x2c (.returned c) R):=⟨c,_,rfl,rfl,ai,N⟩;exact I7o
