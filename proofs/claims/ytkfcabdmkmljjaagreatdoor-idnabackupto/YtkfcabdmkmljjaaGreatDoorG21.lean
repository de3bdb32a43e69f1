/- Lemmas. -/
import Derived.Test.YtkfcabdmkmljjaaGreatDoorG19
import Derived.Test.YtkfcabdmkmljjaaGreatDoorG22
import Derived.Test.YtkfcabdmkmljjaaGreatDoorG24
import Derived.Test.YtkfcabdmkmljjaaGreatDoorG25
import Derived.Test.YtkfcabdmkmljjaaGreatDoorG26
import Derived.Test.YtkfcabdmkmljjaaGreatDoorG27
import Derived.Test.YtkfcabdmkmljjaaGreatDoorG28
import Derived.Test.YtkfcabdmkmljjaaGreatDoorG29
import Derived.Test.YtkfcabdmkmljjaaGreatDoorG30
import Derived.Test.YtkfcabdmkmljjaaGreatDoorG32
set_option maxHeartbeats 8000000
set_option maxRecDepth 100000
namespace Go.Proofs.YtkfcabdmkmljjaaGreatDoor
open Go.Proofs.Tryz
open Go.RowKit
open Ti
section
variable{p:Prop}
theorem g2A(h:p:=by unfold Cn.x1c;rw[h];rfl):p:=h
theorem V4m(h:p:=by simp only[Bool.and_eq_true]at D;have:=x5s D.1.2;omega):p:=h
theorem g2b(h:p:=by have:=of_decide_eq_false h;exact f6J):p:=h
theorem E6f(h:p:=by simp only[Bool.and_eq_true]at D;have:=x5s D.1;omega):p:=h
theorem S5g(h:p:=by go_wp2_with(go_at_call 38;refine(V K).mono ?_;rintro e G ⟨rfl,A,rfl⟩;clear K);go_ret;exact⟨rfl,A,rfl⟩):p:=h
theorem f4w(h:p:=by
 rcases u4.1.2 with⟨e,_⟩ | ⟨_,_,_,e,_⟩
 ·exact⟨_,_,_,e⟩
 ·exact⟨_,_,_,e⟩):p:=h
end
theorem x8j v rs kind w(hg:Glob w)(hv:Rcs w v rs)(hk:I64 kind)(bY:∀r∈Cn.famOf (Cn.fam kind) rs,Cn.right r=0/\r.kind≠15)(hl:(Cn.famOf (Cn.fam kind) rs).length<=4096)(bH:∀m:List Tri.Rg,m.Perm (Cn.rangesA (fun i _=>(i:Int)) 1 (Cn.famOf (Cn.fam kind) rs))->(m.Pairwise fun x y=>Tri.lo x<=Tri.lo y)->Tri.Val 0 m):Calls prog 95 #[v,.int .i64 kind] w (SpkB w (Cn.famOf (Cn.fam kind) rs)):=by
 obtain⟨i0,bT,cD,cE,cF⟩:=info_parts Tryz.info272;obtain⟨i1,bU,cz,cB,cC⟩:=info_parts Tryz.info60;obtain⟨W1,W2,cT,bR,aA,aN,ce,bj⟩:=z8r w;have K1:=O (x5w v rs kind W2 (hg.on aA) (hv.below aA) hk);unfold FamB at K1
 have bu:W2.heap[w.heap.size+1]?=some (.cells #[.int .i64 0,.int .i64 0,.int .i64 0,.int .i64 0,.slice none 0 0,.string ⟨#[]⟩,.string ⟨#[]⟩,.float .f64 0] 60 (0,0)):=by
  rw[<- bR,<- aN];show(W1.heap.push _)[W1.heap.size]?=_;simp
 obtain⟨ao,cap,cw,_,_⟩:=hv.shape;generalize Cn.famOf (Cn.fam kind) rs=fs at *;have az:=O bY;have A:=O bH;have bL:=O bj;have bK:=O bu;have cR:=O aA;have aW:=O ce;subst cw;go_enter func95,ntmps95;go_wp2_with fail;refine(V K1).mono ?_;rintro e1 w1 ⟨v1,qs,rfl,bC,hR,aC⟩;have cX:qs.length=fs.length:=(by rw[<- bC,List.length_map]);have q:Rcs w1 v1 fs:=(by rw[<- bC];exact hR.rsx.rcs aC f6J);have T:=O (V bL w1 aC)
 have aG:w1.heap[w.heap.size+1]?=some (.cells #[.int .i64 0,.int .i64 0,.int .i64 0,.int .i64 0,.slice none 0 0,.string ⟨#[]⟩,.string ⟨#[]⟩,.float .f64 0] 60 (0,0)):=by
  rw[aC.block _ (by have:=V aW;exact f6J)];exact V bK
 have l:Hid (∀k,(Cn.rangesA (fun i _=>(i:Int)) 1 (fs.take k)).length<=4563402752):=fun k=>by
  have h1:=Cn.x3F (g:=fun i _=>(i:Int)) (fs.take k) 1 (fun r hr=>V az r (List.mem_of_mem_take hr));have h2:(fs.take k).length<=fs.length:=List.length_take_le' _ _;omega
 have aj:Hid (∀k,k<fs.length->∃b R cap va,v1=.slice (some ⟨b,R,none⟩) fs.length cap/\RecFit (fs.getD k Cn.none)/\∀W:World,(∀g,g<w1.heap.size->g≠w.heap.size+1->W.heap[g]?=w1.heap[g]?)->(W.cell? ⟨b,R+k*8,none⟩=some (.int .i64 (fs.getD k Cn.none).kind)/\W.cell? ⟨b,R+k*8+1,none⟩=some (.int .i64 (fs.getD k Cn.none).lo)/\W.cell? ⟨b,R+k*8+2,none⟩=some (.int .i64 (fs.getD k Cn.none).hi)/\W.cell? ⟨b,R+k*8+3,none⟩=some (.int .i64 (fs.getD k Cn.none).n)/\W.cell? ⟨b,R+k*8+4,none⟩=some va/\W.cell? ⟨b,R+k*8+5,none⟩=some (.string (fs.getD k Cn.none).name)/\W.cell? ⟨b,R+k*8+6,none⟩=some (.string (fs.getD k Cn.none).other)/\W.cell? ⟨b,R+k*8+7,none⟩=some (.float .f64 (fs.getD k Cn.none).wt))/\Sk .i32 W va (fs.getD k Cn.none).to):=fun k hk=>by
  obtain⟨b,R,cap,he,_,_,hc⟩:=q.place f6J;have cU:W2.heap.size<=b:=(hR.1.lt b (by rw[he];rfl)).1;have bS:b≠w.heap.size+1:=(by have:=V aW;exact f6J);obtain⟨y0,y1,y2,y3,⟨va,y4,ag⟩,y5,y6,y7⟩:=hc k hk;refine⟨b,R,cap,va,he,q.fit hk,fun W hW=>?_⟩;have e:∀j,W.cell? ⟨b,j,none⟩=w1.cell? ⟨b,j,none⟩:=fun j=>World.cell?_of_block (hW b (x0a y0) bS);exact⟨⟨by rw[e];exact y0,by rw[e];exact y1,by rw[e];exact y2,by rw[e];exact y3,by rw[e];exact y4,by rw[e];exact y5,by rw[e];exact y6,by rw[e];exact y7⟩,q1i aG hW ag⟩
 have aZ:Hid (∀k,k<fs.length->Cn.rangesA (fun i _=>(i:Int)) 1 (fs.take (k+1))=Cn.rangesA (fun i _=>(i:Int)) 1 (fs.take k)++Cn.spoken (fs.getD k Cn.none) ((1+k:Nat):Int)/\fs.take (k+1)=fs.take k++[fs.getD k Cn.none]):=fun k hk=>by
  have e:fs.take (k+1)=fs.take k++[fs.getD k Cn.none]:=v2e
  rw[e,Cn.x2P,List.length_take,Nat.min_eq_left f6J];exact⟨rfl,rfl⟩
 obtain⟨cS,cH,bI,_,_⟩:=q.shape;subst bI;go_wp2;go_loopw[5,6,8,15] (fun lv rv _ iv wr=>∃(k:Nat) (ps:List (Rec×Value)),iv=.int .i64 k/\k<=fs.length/\ps.map (·.1)=Cn.none::fs.take k/\ps.length=k+1/\(∃lo cap,lv=.slice lo (k+1) cap/\cap<=9223372036854775807)/\Spst w w1 wr rv lv (Cn.rangesA (fun i _=>(i:Int)) 1 (fs.take k)) ps) (fun _ _ _ iv _=>fs.length-(intOf iv).toNat)
 case atStart=>exact⟨0,[(Cn.none,.slice none 0 0)],rfl,f6J,rfl,rfl,⟨_,_,by first| rfl|(rw[aN];rfl),f6J⟩,by first| exact V T|(rw[aN];exact V T)⟩
 case round =>
  obtain⟨k,ps,rfl,hk,aJ,G,⟨Y,H,rfl,cV⟩,K⟩:=hrel;by_cases aI:k<fs.length
  ·obtain⟨b,R,cG,va,he,s,bh⟩:=V aj k aI;obtain⟨q1,q2,q3⟩:=Value.slice.inj he;subst q1;obtain⟨aK,aL⟩:=V az (fs.getD k Cn.none) (by simp[List.getD,aI]);obtain⟨ba,bP⟩:=V aZ k aI;have bJ:=V l k;obtain⟨⟨x0,x1,x2,x3,x4,x5,x6,x7⟩,ag⟩:=bh wr K.old;obtain⟨d,J,rfl,_,_⟩:=ag.shape;generalize fs.getD k Cn.none=r at *;have ci:Fi (((1+k:Nat):Int)):=⟨f6J,f6J⟩;have bD:=y2a r ((1+k:Nat):Int) aK aL;have cf:=Cn.x5k aK aL ((1+k:Nat):Int);have bV:(((1+k:Nat):Int))=(k:Int)+1:=f6J;have aq:=K.bel;obtain⟨V1,F⟩:∃V1,wr.alloc (.cells #[.int .i64 r.kind,.int .i64 r.lo,.int .i64 r.hi,.int .i64 r.n,.slice d r.to.length J,.string r.name,.string r.other,.float .f64 r.wt] 60)=V1:=⟨_,rfl⟩;have bt:Bw wr V1:=by rw[<- F];exact(b0r).alloc (l0r _) _
   have ar:V1.heap[wr.heap.size]?=some (.cells #[.int .i64 r.kind,.int .i64 r.lo,.int .i64 r.hi,.int .i64 r.n,.slice d r.to.length J,.string r.name,.string r.other,.float .f64 r.wt] 60 (0,0)):=by
    rw[<- F];exact s6Q
   have cY:V1.heap.size=wr.heap.size+1:=(by rw[<- F];exact World.size_alloc _ _);have bQ:=K.below bt;have KS:=O (x7L r (.slice d r.to.length J) _ V1 s (ag.below bt) aK aL ci);unfold recV at KS;rw[bV]at KS ba bD cf;have KC:Hid (∀W,(∀g,g<w1.heap.size->g≠w.heap.size+1->W.heap[g]?=w1.heap[g]?)->Calls prog 148 #[.slice d r.to.length J] W (x0h W r.to)):=fun W h=>x2F _ r.to W (bh W h).2 s.len;unfold x0h at KC;have aS:Hid (∀g,(Value.slice Y (k+1) H).ownBlock=some g->g<wr.heap.size):=fun g Q=>(K.rcs.1.lt g Q).2;have aV:Hid (∀p∈ps,∀g,p.2.ownBlock=some g->g<wr.heap.size):=fun p hp g Q=>((K.rcs.2 p hp).2.2.lt g Q).2;have bM:Hid (∀g,u6.ownBlock=some g->g<wr.heap.size):=fun g Q=>(K.rng.2.2.lt g Q).2;obtain⟨z0,z1,z2,z3,z4,z5,z6,z7⟩:=x4H ar;have cW:∀W a m,(store a (.float .f64 r.wt) m).run prog W=stored prog W a (.float .f64 r.wt) m:=fun W a m=>run_store prog W a _ m rfl;have bN:=O bQ;have aO:=O ar;have cP:=K.sz;have cK:=K.s1;generalize hys:Cn.spoken r ((k:Int)+1)=ys,Cn.rangesA (fun i _=>(i:Int)) 1 (fs.take k)=xs at *;obtain⟨kd,lo,hi,E,I,c,M,X⟩:=r;simp only at *;go_wp2_with fail;refine(V KS).mono ?_;rintro e3 w3 ⟨v3,rfl,bm,aD⟩;obtain⟨g3,be,rfl,bE⟩:=z0x bm bD;have aB:=(V bN).below aD;have cM:=aB.sz;have cI:=aD.size;have HM:=O aB.rng.2.2;have aY:=O bE;have aU:=O (Ti.x4Y ys);have ay:Hid (∀v4 w4,w4.ownsRow w1.heap.size 272 3 v4 (xs.length+ys.length) (Ti.rcells xs++Ti.rcells ys)->w3.grownBy w4 u6.ownBlock->Spst w w1 w4 v4 (.slice Y (k+1) H) (xs++ys) ps):=fun v4 w4 h1 h2=>aB.ranges bm.1 f6J h1 h2;have aP:Hid (w3.heap[wr.heap.size]?=some (.cells #[.int .i64 kd,.int .i64 lo,.int .i64 hi,.int .i64 E,.slice d I.length J,.string c,.string M,.float .f64 X] 60 (0,0))):=(aD.block _ f6J).trans (V aO);go_wp2_with(at_builtin;refine wpList_append_own _ rfl (.tmp 19) (.tmp 23) 230 rfl w1.heap.size 272 i0 (.agg #[.int .i64 0,.int .i64 0,.int .i64 0]) 3 24 underlying230 bT cD cE cF rfl e8Q _ _ _ rfl (V HM) ⟨g3,0,none⟩ ys.length be (Ti.rcells ys) rfl (by rw[Ti.x1J]) (V aY) (V aU) T7X f6J f6J ?_);intro v4 w4 bZ aH _;have bn:=V ay v4 w4 bZ aH
   have C:w4.heap[wr.heap.size]?=some (.cells #[.int .i64 kd,.int .i64 lo,.int .i64 hi,.int .i64 E,.slice d I.length J,.string c,.string M,.float .f64 X] 60 (0,0)):=by
    rw[aH.block _ f6J (fun e=>by have:=V bM _ e.symm;exact f6J)];exact V aP
   have cN:=aH.size;have z4:=(x4H C).2.2.2.2.1;have K5:=O (V KC w4 bn.old);have aX:=O bn;have ai:=O C;go_wp2_with fail;refine(V K5).mono ?_;rintro e5 w5 ⟨v5,rfl,U,af⟩;obtain⟨S,c5,cj,_,_⟩:=U.sk.shape;subst cj;have cO:=af.size;have N:=(V aX).below af;have D:w5.heap[wr.heap.size]?=some (.cells #[.int .i64 kd,.int .i64 lo,.int .i64 hi,.int .i64 E,.slice d I.length J,.string c,.string M,.float .f64 X] 60 (0,0)):=(af.block _ f6J).trans (V ai);have y4:=(x4H D).2.2.2.2.1;have f4:=x0d (j:=4) D;obtain⟨f,L⟩:∃f,w5.setCell ⟨wr.heap.size,4,none⟩ (.slice S I.length c5)=f:=⟨_,rfl⟩
   have aw:f.heap[wr.heap.size]?=some (.cells #[.int .i64 kd,.int .i64 lo,.int .i64 hi,.int .i64 E,.slice S I.length c5,.string c,.string M,.float .f64 X] 60 (0,0)):=by
    rw[<- L,x0c D];rfl
   have bF:f.heap.size=w5.heap.size:=by rw[<- L];exact x0V _ _ _ _
   have P:Spst w w1 f v4 (.slice Y (k+1) H) (xs++ys) ps:=by
    refine N.keep (B:=wr.heap.size) f6J (by rw[<- L];exact x0b N.bel aq.size _) f6J (fun g _ bX=>by rw[<- L];exact x0e _ bX) (z1A N.rng.2.2 D e8Q) (fun e=>by have:=V aS _ e;exact f6J) (fun p hp e=>by have:=V aV p hp _ e;exact f6J)
   have bG:Ok .i32 21 f w.heap.size (.slice S I.length c5) I:=by
    refine(U.lower (by have:=aq.size;exact f6J)).keep fun g Q=>?_;rw[<- L];exact x0e _ (fun e=>by have:=(U.2.2.lt g Q).1;exact f6J)
   obtain⟨s0,s1,s2,s3,s4,s5,s6,s7⟩:=x4H aw;have aT:Hid (∀o,(f.alloc o).ownsRow w.heap.size 60 8 (.slice Y (k+1) H) (k+1) (rcells ps)):=fun o=>(by have:=P.rcs.1.alloc o;rw[G]at this;exact this);have z:Hid (∀j u,(x0A (⟨kd,lo,hi,E,I,c,M,X⟩,.slice S I.length c5))[j]?=some u->(f.alloc (.cells #[.int .i64 kd,.int .i64 lo,.int .i64 hi,.int .i64 E,.slice S I.length c5,.string c,.string M,.float .f64 X] 60)).cell? ((⟨f.heap.size,0,none⟩:Addr).add j)=some u):=x6k f f.heap.size rfl ⟨kd,lo,hi,E,I,c,M,X⟩ _;have ae:=O (x7r ⟨kd,lo,hi,E,I,c,M,X⟩ (vt:=.slice S I.length c5) rfl)
   have ab:Hid (∀o gg Z w8,w8.ownsRow w.heap.size 60 8 (.slice (some ⟨gg,0,none⟩) (k+1+1) Z) (k+1+1) (rcells ps++x0A (⟨kd,lo,hi,E,I,c,M,X⟩,.slice S I.length c5))->(f.alloc o).grownBy w8 (Value.slice Y (k+1) H).ownBlock->((Value.slice Y (k+1) H).ownBlock=some gg\/gg=f.heap.size+1)->Spst w w1 w8 v4 (.slice (some ⟨gg,0,none⟩) (k+1+1) Z) (xs++ys) (ps++[(⟨kd,lo,hi,E,I,c,M,X⟩,.slice S I.length c5)])):=fun o gg Z w8 h1 h2 h3=>by
    have h:=P.more (r:=⟨kd,lo,hi,E,I,c,M,X⟩) bG (gg:=gg) (cap:=Z) (by rw[G];exact h1) h2 h3;rw[G]at h;exact h
   have cL:=P.bel.size;clear K5 U af N D aw P bG aX ai aS aV bF;go_wp2_with(at_builtin;refine wpList_append_lies _ rfl (.tmp 29) (.tmp 31) 22 rfl w.heap.size 60 i1 (.agg #[.int .i64 0,.int .i64 0,.int .i64 0,.int .i64 0,.slice none 0 0,.string ⟨#[]⟩,.string ⟨#[]⟩,.float .f64 0]) 8 96 underlying22 bU cz cB cC rfl e8Q _ _ _ rfl (V aT _) ⟨f.heap.size,0,none⟩ 1 1 (x0A (⟨kd,lo,hi,E,I,c,M,X⟩,.slice S I.length c5)) rfl rfl (V z) (V ae) f6J T7X f6J P8P (f.heap.size+1) (by simp) ?_);intro gg Z w8 aM bA am cJ;have bp:=V ab _ gg Z w8 aM bA am
   have aF:Z<=9223372036854775807:=by
    rcases aM.2 with⟨h0,_⟩ | ⟨_,_,_,h0,_,_,_,h1,_⟩
    ·cases h0
    ·obtain⟨_,_,e3⟩:=Value.slice.inj h0;rw[e3];unfold maxLen at h1;omega
   have bO:=O bp;clear aT z ae ab aM bA am bp s0 s1 s2 s3 s4 s5 s6 s7 y4 f4 z4;go_wp2
   go_roundw
   case rel=>exact⟨k+1,ps++[(⟨kd,lo,hi,E,I,c,M,X⟩,.slice S I.length c5)],g2E,f6J,by rw[List.map_append,aJ,bP];rfl,by rw[List.length_append,G];rfl,⟨_,_,rfl,aF⟩,by rw[ba];exact V bO⟩
   case measure=>exact g7W
  ·obtain rfl:k=fs.length:=f6J;rw[List.take_of_length_le (l0r _)]at K aJ;have bJ:=V l fs.length;rw[List.take_of_length_le (l0r _)]at bJ;have KB:=O (y5w _ wr u6 _ K.rng f6J (V A));unfold y7w at KB;have HS:=O K;obtain⟨ro,cQ,cd,_,_⟩:=K.rng.sr.shape;subst cd;clear K aj aZ az l A;go_wp2_with fail;refine(V KB).mono ?_;rintro e9 w9 ⟨a,m,rfl,p1,p2,hT,bB⟩;obtain⟨F1,F2,F3,F4,F5⟩:=(V HS).fin bB hT;have y0:=cell_of (j:=0) F1 (by show 0<2;exact f6J);have y1:=cell_of (j:=1) F1 w2h;have f0:=fun j=>x0d (j:=j) F1;have aQ:=O F2;have HF:SpkB w fs (.returned (.agg #[.pointer (some a),.slice Y (fs.length+1) H])) _:=⟨a,m,_,ps,rfl,p1,p2,F3,F4,aJ,F5⟩;have aR:=O HF;clear KB hT bB F1 F2 F3 F4 F5 HF HS p1 p2;go_wp2;have t:=V aQ;have bw:=V aR;clear aQ aR y0 y1 f0;generalize(w9.setCell ⟨w.heap.size,0,none⟩ (.pointer (some a))).setCell ⟨w.heap.size,1,none⟩ (.slice Y (fs.length+1) H)=cZ at *;have z0:=cell_of (j:=0) t (by show 0<2;exact f6J);have z1:=cell_of (j:=1) t w2h;refine bodyPost_ret (v:=.agg #[.pointer (some a),.slice Y (fs.length+1) H]) (by simp[results,Tryz.results95,go_sem,z0,z1]) rfl bw
open Ti
def TrP(W:World)(B:Nat)(v:Value)(xs:List Tri.Rg):Prop:=∃a m,v=.pointer (some a)/\m.Perm xs/\(m.Pairwise fun x y=>Tri.lo x<=Tri.lo y)/\T4 W B v m 0
def SpP(W:World)(B:Nat)(v vl:Value)(fs:List Rec):Prop:=TrP W B v (Cn.rangesA (fun i _=>(i:Int)) 1 fs)/\∃ps,Rown W B vl ps/\ps.map (·.1)=Cn.none::fs
def CoP(W:World)(B:Nat)(c1 c2:Value)(rs:List Rec):Prop:=∃r1 r2,c1=.map (some r1)/\c2=.map (some r2)/\B<=r1/\B<=r2/\GAt KP W r1 (x3m rs)/\GAt KR W r2 (secC rs)
def MiP(W:World)(B:Nat)(x:Value):Prop:=∃r,x=.map (some r)/\B<=r/\MxAt W r
theorem x6R{W:World}{g o}(h:W.heap[g]?=some o):g<W.heap.size:=by grind
section
variable {W W':World} {B B':Nat} {v vl c1 c2 x:Value} {xs:List Tri.Rg} {fs rs:List Rec}
theorem TrP.below(h:TrP W B v xs)(Y:Bw W W'):TrP W' B v xs:=by
 obtain⟨a,m,e,p,s,t⟩:=h;exact⟨a,m,e,p,s,t.below Y⟩
theorem TrP.lower(h:TrP W B v xs)(Y:B'<=B):TrP W B' v xs:=by
 obtain⟨a,m,e,p,s,t⟩:=h;exact⟨a,m,e,p,s,T4.lower t Y⟩
theorem z1d{w:World}{B B' e F n:Nat}{v us}(h:w.ownsRow B e F v n us)(Y:B'<=B):w.ownsRow B' e F v n us:=by
 refine⟨h.1,?_⟩;rcases h.2 with H | ⟨g,cap,P,N,C,r⟩
 ·exact .inl H
 ·exact .inr ⟨g,cap,P,N,f6J,r⟩
theorem SpP.below(h:SpP W B v vl fs)(Y:Bw W W'):SpP W' B v vl fs:=by
 obtain⟨t,ps,u,e⟩:=h;exact⟨t.below Y,ps,⟨x0w u.1 fun g C=>Y.block g (u.1.lt g C).2,fun p s=>(u.2 p s).below Y⟩,e⟩
theorem SpP.lower(h:SpP W B v vl fs)(Y:B'<=B):SpP W B' v vl fs:=by
 obtain⟨t,ps,u,e⟩:=h;exact⟨t.lower Y,ps,⟨z1d u.1 Y,fun p s=>(u.2 p s).lower Y⟩,e⟩
theorem GAt.below{K:Value->Prop}{r}{c:Value->Option Value}(h:GAt K W r c)(Y:Bw W W'):GAt K W' r c:=by
 obtain⟨U,q,Z,D⟩:=h;exact⟨U,q,by rw[Y.block r (x6R Z)];exact Z,D⟩
theorem CoP.below(h:CoP W B c1 c2 rs)(Y:Bw W W'):CoP W' B c1 c2 rs:=by
 obtain⟨I,r2,t,E,b1,m,i,A⟩:=h;exact⟨I,r2,t,E,b1,m,i.below Y,A.below Y⟩
theorem CoP.lower(h:CoP W B c1 c2 rs)(Y:B'<=B):CoP W B' c1 c2 rs:=by
 obtain⟨I,r2,t,E,b1,m,i,A⟩:=h;exact⟨I,r2,t,E,f6J,f6J,i,A⟩
theorem MiP.below(h:MiP W B x)(Y:Bw W W'):MiP W' B x:=by
 obtain⟨r,e,b,c,g⟩:=h;exact⟨r,e,b,c,g.below Y⟩
theorem MiP.lower(h:MiP W B x)(Y:B'<=B):MiP W B' x:=by
 obtain⟨r,e,b,c⟩:=h;exact⟨r,e,f6J,c⟩
end
structure DataV(W:World)(B:Nat)(rs:List Rec)(t1 t2 t3 t4 t5 a1 l1 a2 l2 a3 l3 a4 l4 a5 l5 c1 c2 x1:Value):Prop where
 p1:TrP W B t1 (Cn.rangesA (fun _ r=>Cn.value r) 1 (Cn.famOf 1 rs))
 p2:TrP W B t2 (Cn.rangesA (fun _ r=>Cn.value r) 1 (Cn.famOf 2 rs))
 p3:TrP W B t3 (Cn.rangesA (fun _ r=>Cn.value r) 1 (Cn.famOf 4 rs))
 p4:TrP W B t4 (Cn.rangesA (fun _ r=>Cn.value r) 1 (Cn.famOf 5 rs))
 p5:TrP W B t5 (Cn.rangesA (fun _ r=>Cn.value r) 1 (Cn.famOf 6 rs))
 q1:SpP W B a1 l1 (Cn.famOf 1 rs)
 q2:SpP W B a2 l2 (Cn.famOf 3 rs)
 q3:SpP W B a3 l3 (Cn.famOf 7 rs)
 q4:SpP W B a4 l4 (Cn.famOf 8 rs)
 q5:SpP W B a5 l5 (Cn.famOf 9 rs)
 co:CoP W B c1 c2 rs
 mi:MiP W B x1
theorem DataV.below{W W' B rs t1 t2 t3 t4 t5 a1 l1 a2 l2 a3 l3 a4 l4 a5 l5 c1 c2 x1}(h:DataV W B rs t1 t2 t3 t4 t5 a1 l1 a2 l2 a3 l3 a4 l4 a5 l5 c1 c2 x1)(Y:Bw W W'):DataV W' B rs t1 t2 t3 t4 t5 a1 l1 a2 l2 a3 l3 a4 l4 a5 l5 c1 c2 x1:=⟨h.p1.below Y,h.p2.below Y,h.p3.below Y,h.p4.below Y,h.p5.below Y,h.q1.below Y,h.q2.below Y,h.q3.below Y,h.q4.below Y,h.q5.below Y,h.co.below Y,h.mi.below Y⟩
def x0m(W:World)(B p:Nat)(rs:List Rec):Prop:=∃t1 t2 t3 t4 t5 a1 l1 a2 l2 a3 l3 a4 l4 a5 l5 c1 c2 x1:Value,W.heap[p]?=some (.cells #[t1,t2,t3,t4,t5,a1,l1,a2,l2,a3,l3,a4,l4,a5,l5,c1,c2,x1] 103 (0,0))/\B<=p/\DataV W B rs t1 t2 t3 t4 t5 a1 l1 a2 l2 a3 l3 a4 l4 a5 l5 c1 c2 x1
theorem x0m.below{W W' B p rs}(h:x0m W B p rs)(Y:Bw W W'):x0m W' B p rs:=by
 obtain⟨l,R,U,X,S,t,P,f,A,T,y,o,C,Q,n,c1,c2,u,Z,D,J⟩:=h;exact⟨l,R,U,X,S,t,P,f,A,T,y,o,C,Q,n,c1,c2,u,by rw[Y.block p (x6R Z)];exact Z,D,J.below Y⟩
def CmdB(w:World)(rs:List Rec)(e:Ending)(w':World):Prop:=∃p,e=.returned (.pointer (some ⟨p,0,none⟩))/\x0m w' w.heap.size p rs/\Below w.heap.size w w'
theorem y0J v rs w(hg:Glob w)(N:Rcs w v rs)(hc:(Cn.check6 rs).2=0)(d:∀r∈rs,r.kind≠15->0<=Cn.value r/\Cn.value r<=65535)(h7:∀r∈rs,r.kind=7->r.to.length=2/\0<=r.lo/\r.lo<=1114111)(aR:∀r∈rs,r.kind=15->Sh r.name/\Sh r.other):Calls prog 50 #[v] w (CmdB w rs):=by
 obtain⟨hl,z,_⟩:=Cn.x0k.1 hc;have R:∀f:Int,f≠10->∀r∈Cn.famOf f rs,r.kind≠15:=fun f hf r u e=>hf (by rw[<- (Cn.x0s.1 u).2,e];exact e8N);have az:∀f,(Cn.famOf f rs).length<=4096:=fun f=>Nat.le_trans (List.length_filter_le _ _) hl
 have KV:∀(Q f:Int),Cn.fam Q=f->f≠10->f≠0->I64 Q->Hid (∀W,Bw w W->Calls prog 94 #[v,.int .i64 Q] W (x6t W (Cn.rangesA (fun _ r=>Cn.value r) 1 (Cn.famOf f rs)))):=fun Q f e1 E e3 e4 W P=>by
  subst e1;refine y2g v rs Q W (hg.on P) (N.below P) e4 (fun r u=>?_) (az _) (fun m hp hs=>(Cn.y3F (Cn.y2L hc ⟨E,e3⟩) (fun k hk=>?_) hp hs).1)
  ·have:=d r (Cn.x0s.1 u).1 (R _ E r u);exact⟨z r (Cn.x0s.1 u).1,R _ E r u,f6J,f6J⟩
  ·exact d _ (Cn.x0s.1 (List.getElem_mem hk)).1 (R _ E _ (List.getElem_mem hk))
 have af:∀(Q f:Int),Cn.fam Q=f->f≠10->f≠0->I64 Q->Hid (∀W,Bw w W->Calls prog 95 #[v,.int .i64 Q] W (SpkB W (Cn.famOf f rs))):=fun Q f e1 E e3 e4 W P=>by
  subst e1;refine x8j v rs Q W (hg.on P) (N.below P) e4 (fun r u=>⟨z r (Cn.x0s.1 u).1,R _ E r u⟩) (az _) (fun m hp hs=>(Cn.x8L hc ⟨E,e3⟩ hp hs).1)
 have KC:Hid (∀W,Bw w W->Calls prog 96 #[v] W (CmpB W rs)):=fun W P=>x3Z v rs W (N.below P) h7 hl;have KM:Hid (∀W,Bw w W->Calls prog 97 #[v] W (MxtB W)):=fun W P=>x8g v rs W (N.below P) aR;have V1:=KV 1 1 e8N e8N e8N ⟨f6J,f6J⟩;have V2:=KV 6 2 e8N e8N e8N ⟨f6J,f6J⟩;have V3:=KV 9 4 e8N e8N e8N ⟨f6J,f6J⟩;have V4:=KV 10 5 e8N e8N e8N ⟨f6J,f6J⟩;have V5:=KV 11 6 e8N e8N e8N ⟨f6J,f6J⟩;have P1:=af 3 1 e8N e8N e8N ⟨f6J,f6J⟩;have P2:=af 7 3 e8N e8N e8N ⟨f6J,f6J⟩;have P3:=af 12 7 e8N e8N e8N ⟨f6J,f6J⟩;have P4:=af 13 8 e8N e8N e8N ⟨f6J,f6J⟩;have P5:=af 14 9 e8N e8N e8N ⟨f6J,f6J⟩;obtain⟨ao,cap,aT,_,_⟩:=N.shape;subst aT;have ai:=O (Below.refl w.heap.size w);go_enter func50,ntmps50;go_wp2_with fail;refine(V V1 _ (V ai)).mono ?_;rintro e1 w1 ⟨b1,m1,rfl,u1,u2,u3,aS⟩;have L:=O (bthen (V ai) aS);have C:Hid (TrP w1 w.heap.size (.pointer (some b1)) (Cn.rangesA (fun _ r=>Cn.value r) 1 (Cn.famOf 1 rs))):=TrP.lower ⟨_,_,rfl,u1,u2,u3⟩ (V ai).size;go_wp2_with fail;refine(V V2 _ (V L)).mono ?_;rintro E w2 ⟨b2,m2,rfl,u1,u2,u3,ay⟩;have i:=O (bthen (V L) ay);have A:Hid (TrP w2 w.heap.size (.pointer (some b2)) (Cn.rangesA (fun _ r=>Cn.value r) 1 (Cn.famOf 2 rs))):=TrP.lower ⟨_,_,rfl,u1,u2,u3⟩ (V L).size;replace C:=O ((V C).below ay);go_wp2_with fail;refine(V V3 _ (V i)).mono ?_;rintro e3 w3 ⟨b3,m3,rfl,u1,u2,u3,t⟩;have J:=O (bthen (V i) t);have F:Hid (TrP w3 w.heap.size (.pointer (some b3)) (Cn.rangesA (fun _ r=>Cn.value r) 1 (Cn.famOf 4 rs))):=TrP.lower ⟨_,_,rfl,u1,u2,u3⟩ (V i).size;replace C:=O ((V C).below t);replace A:=O ((V A).below t);go_wp2_with fail;refine(V V4 _ (V J)).mono ?_;rintro e4 w4 ⟨b4,m4,rfl,u1,u2,u3,M⟩;have U:=O (bthen (V J) M);have K:Hid (TrP w4 w.heap.size (.pointer (some b4)) (Cn.rangesA (fun _ r=>Cn.value r) 1 (Cn.famOf 5 rs))):=TrP.lower ⟨_,_,rfl,u1,u2,u3⟩ (V J).size;replace C:=O ((V C).below M);replace A:=O ((V A).below M);replace F:=O ((V F).below M);go_wp2_with fail;refine(V V5 _ (V U)).mono ?_;rintro e5 w5 ⟨b5,m5,rfl,u1,u2,u3,Y⟩;have aj:=O (bthen (V U) Y);have S:Hid (TrP w5 w.heap.size (.pointer (some b5)) (Cn.rangesA (fun _ r=>Cn.value r) 1 (Cn.famOf 6 rs))):=TrP.lower ⟨_,_,rfl,u1,u2,u3⟩ (V U).size;replace C:=O ((V C).below Y);replace A:=O ((V A).below Y);replace F:=O ((V F).below Y);replace K:=O ((V K).below Y);go_wp2_with fail;refine(V P1 _ (V aj)).mono ?_;rintro e6 w6 ⟨g1,n1,y1,bm,rfl,u1,u2,u3,u4,u5,ae⟩;have am:=O (bthen (V aj) ae);have X:Hid (SpP w6 w.heap.size (.pointer (some g1)) y1 (Cn.famOf 1 rs)):=SpP.lower ⟨⟨_,_,rfl,u1,u2,u3⟩,_,u4,u5⟩ (V aj).size
 obtain⟨aL,aG,aA,aU⟩:∃o l c,y1=.slice o l c:=f4w
 subst aU;replace C:=O ((V C).below ae);replace A:=O ((V A).below ae);replace F:=O ((V F).below ae);replace K:=O ((V K).below ae);replace S:=O ((V S).below ae);go_wp2_with fail;refine(V P2 _ (V am)).mono ?_;rintro e7 w7 ⟨g2,n2,y2,bn,rfl,u1,u2,u3,u4,u5,g⟩;have H:=O (bthen (V am) g);have D:Hid (SpP w7 w.heap.size (.pointer (some g2)) y2 (Cn.famOf 3 rs)):=SpP.lower ⟨⟨_,_,rfl,u1,u2,u3⟩,_,u4,u5⟩ (V am).size
 obtain⟨aM,aH,aB,aV⟩:∃o l c,y2=.slice o l c:=f4w
 subst aV;replace C:=O ((V C).below g);replace A:=O ((V A).below g);replace F:=O ((V F).below g);replace K:=O ((V K).below g);replace S:=O ((V S).below g);replace X:=O ((V X).below g);go_wp2_with fail;refine(V P3 _ (V H)).mono ?_;rintro e8 w8 ⟨g3,n3,y3,bp,rfl,u1,u2,u3,u4,u5,Z⟩;have aq:=O (bthen (V H) Z);have a:Hid (SpP w8 w.heap.size (.pointer (some g3)) y3 (Cn.famOf 7 rs)):=SpP.lower ⟨⟨_,_,rfl,u1,u2,u3⟩,_,u4,u5⟩ (V H).size
 obtain⟨aN,aI,aC,aW⟩:∃o l c,y3=.slice o l c:=f4w
 subst aW;replace C:=O ((V C).below Z);replace A:=O ((V A).below Z);replace F:=O ((V F).below Z);replace K:=O ((V K).below Z);replace S:=O ((V S).below Z);replace X:=O ((V X).below Z);replace D:=O ((V D).below Z);go_wp2_with fail;refine(V P4 _ (V aq)).mono ?_;rintro e9 w9 ⟨g4,n4,y4,bt,rfl,u1,u2,u3,u4,u5,ab⟩;have ar:=O (bthen (V aq) ab);have j:Hid (SpP w9 w.heap.size (.pointer (some g4)) y4 (Cn.famOf 8 rs)):=SpP.lower ⟨⟨_,_,rfl,u1,u2,u3⟩,_,u4,u5⟩ (V aq).size
 obtain⟨aO,aJ,aD,aX⟩:∃o l c,y4=.slice o l c:=f4w
 subst aX;replace C:=O ((V C).below ab);replace A:=O ((V A).below ab);replace F:=O ((V F).below ab);replace K:=O ((V K).below ab);replace S:=O ((V S).below ab);replace X:=O ((V X).below ab);replace D:=O ((V D).below ab);replace a:=O ((V a).below ab);go_wp2_with fail;refine(V P5 _ (V ar)).mono ?_;rintro be aZ ⟨g5,n5,y5,bu,rfl,u1,u2,u3,u4,u5,I⟩;have q:=O (bthen (V ar) I);have y:Hid (SpP aZ w.heap.size (.pointer (some g5)) y5 (Cn.famOf 9 rs)):=SpP.lower ⟨⟨_,_,rfl,u1,u2,u3⟩,_,u4,u5⟩ (V ar).size
 obtain⟨aP,aK,aF,aY⟩:∃o l c,y5=.slice o l c:=f4w
 subst aY;replace C:=O ((V C).below I);replace A:=O ((V A).below I);replace F:=O ((V F).below I);replace K:=O ((V K).below I);replace S:=O ((V S).below I);replace X:=O ((V X).below I);replace D:=O ((V D).below I);replace a:=O ((V a).below I);replace j:=O ((V j).below I);go_wp2_with fail;refine(V KC _ (V q)).mono ?_;rintro bh ba ⟨r1,r2,rfl,u1,u2,u3,u4,T⟩;have s:=O (bthen (V q) T);have aw:Hid (CoP ba w.heap.size (.map (some r1)) (.map (some r2)) rs):=CoP.lower ⟨_,_,rfl,rfl,u1,u2,u3,u4⟩ (V q).size;replace C:=O ((V C).below T);replace A:=O ((V A).below T);replace F:=O ((V F).below T);replace K:=O ((V K).below T);replace S:=O ((V S).below T);replace X:=O ((V X).below T);replace D:=O ((V D).below T);replace a:=O ((V a).below T);replace j:=O ((V j).below T);replace y:=O ((V y).below T);go_wp2_with fail;refine(V KM _ (V s)).mono ?_;rintro bj n ⟨r3,rfl,u1,u2,G⟩;have ag:=O (bthen (V s) G);have aQ:Hid (MiP n w.heap.size (.map (some r3))):=MiP.lower ⟨_,rfl,u1,u2⟩ (V s).size;replace C:=O ((V C).below G);replace A:=O ((V A).below G);replace F:=O ((V F).below G);replace K:=O ((V K).below G);replace S:=O ((V S).below G);replace X:=O ((V X).below G);replace D:=O ((V D).below G);replace a:=O ((V a).below G);replace j:=O ((V j).below G);replace y:=O ((V y).below G);replace aw:=O ((V aw).below G)
 have HF:Hid (CmdB w rs (.returned (.pointer (some ⟨n.heap.size,0,none⟩))) (n.alloc (.cells #[.pointer (some b1),.pointer (some b2),.pointer (some b3),.pointer (some b4),.pointer (some b5),.pointer (some g1),.slice aL aG aA,.pointer (some g2),.slice aM aH aB,.pointer (some g3),.slice aN aI aC,.pointer (some g4),.slice aO aJ aD,.pointer (some g5),.slice aP aK aF,.map (some r1),.map (some r2),.map (some r3)] 103))):=by
  have b:Bw n (n.alloc (.cells #[.pointer (some b1),.pointer (some b2),.pointer (some b3),.pointer (some b4),.pointer (some b5),.pointer (some g1),.slice aL aG aA,.pointer (some g2),.slice aM aH aB,.pointer (some g3),.slice aN aI aC,.pointer (some g4),.slice aO aJ aD,.pointer (some g5),.slice aP aK aF,.map (some r1),.map (some r2),.map (some r3)] 103)):=(b0r).alloc (l0r _) _;refine⟨_,rfl,⟨_,_,_,_,_,_,_,_,_,_,_,_,_,_,_,_,_,_,?_,(V ag).size,(V C).below b,(V A).below b,(V F).below b,(V K).below b,(V S).below b,(V X).below b,(V D).below b,(V a).below b,(V j).below b,(V y).below b,(V aw).below b,(V aQ).below b⟩,bthen (V ag) b⟩;show(n.heap.push _)[n.heap.size]?=_;simp
 exact I7o
def CpB(w:World)(rs:List Rec)(e:Ending)(w':World):Prop:=Below w.heap.size w w'/\((¬(Cn.check rs).2=0/\e=.returned (.tuple #[.pointer none,.int .i64 ((Cn.check rs).1:Int),.int .i64 (Cn.check rs).2]))\/((Cn.check rs).2=0/\∃p,e=.returned (.tuple #[.pointer (some ⟨p,0,none⟩),.int .i64 0,.int .i64 0])/\x0m w' w.heap.size p rs))
theorem y0I v rs w(N:Rcs w v rs)(b:Calls prog 49 #[v] w (x3O w (Cn.check rs)))(M:(Cn.check rs).2=0->∀W,Bw w W->Calls prog 50 #[v] W (CmdB W rs)):Calls prog 22 #[v] w (CpB w rs):=by
 have K:=O b;unfold x3O at K;have M:=O M;obtain⟨ao,cap,r,_,_⟩:=N.shape;unfold CpB;by_cases h:(Cn.check rs).2=0
 ·have A:=O (V M h);have o:=O h;generalize hck:Cn.check rs=q at *;obtain⟨C,s⟩:=q;simp only at h;subst h;subst r;go_enter func22,ntmps22;go_wp2_with fail;refine c0m K fun w1 F=>?_;have g:=O (V A w1 F);have I:=O F;go_wp2_with fail;refine(V g).mono ?_;rintro E m ⟨p,rfl,a,H⟩;have i:=O (bthen (V I) H)
  have G:Hid (x0m m w.heap.size p rs):=by
   obtain⟨l,R,U,X,S,t,P,f,c,T,y,Y,j,Q,n,c1,c2,u,Z,D,J⟩:=a;have L:=(V I).size;exact⟨l,R,U,X,S,t,P,f,c,T,y,Y,j,Q,n,c1,c2,u,Z,f6J,J.p1.lower L,J.p2.lower L,J.p3.lower L,J.p4.lower L,J.p5.lower L,J.q1.lower L,J.q2.lower L,J.q3.lower L,J.q4.lower L,J.q5.lower L,J.co.lower L,J.mi.lower L⟩
  go_wp2;go_ret3;exact⟨V i,.inr ⟨V o,p,rfl,V G⟩⟩
 ·have o:=O h;generalize hck:Cn.check rs=q at *;obtain⟨C,s⟩:=q;simp only at h;have d:(s != 0)=true:=bne_iff_ne.2 h;subst r;go_enter func22,ntmps22;go_wp2_with fail;refine c0m K fun w1 F=>?_;have I:=O F;go_wp2;go_ret3;exact⟨V I,.inl ⟨V o,rfl⟩⟩
open Ti
namespace Cn
theorem x5s{r a b c d}(h:bare r false a b c d=true):r.n=0:=by
 unfold bare at h;simp only[Bool.and_eq_true,Bool.false_or,decide_eq_true_eq]at h;exact h.1.1.1.1
theorem y1P{r}(h:right r=0)(G:r.kind≠15)(Z:r.kind≠4):0<=r.n/\r.n<=254:=by
 have o:=x0x h
 have H:1<=r.kind/\r.kind<=15:=by
  unfold fam at o;split at o
  ·exact absurd rfl o
  ·omega
 unfold right at h;rw[if_neg o,if_neg G]at h;have I:=x1x h;rw[Bool.and_eq_true]at I;have D:=I.2;by_cases L:r.kind=1\/r.kind=2\/r.kind=11
 ·rw[if_pos L]at D;have:=x5s D;omega
 rw[if_neg L]at D;by_cases S:r.kind=3
 ·rw[if_pos S]at D;exact E6f
 rw[if_neg S,if_neg Z]at D;by_cases A:r.kind=5
 ·rw[if_pos A]at D;exact V4m
 rw[if_neg A]at D;by_cases E:r.kind=13
 ·rw[if_pos E]at D;exact V4m
 rw[if_neg E]at D;by_cases R:r.kind=6
 ·grind
 rw[if_neg R]at D;by_cases F:r.kind=7
 ·rw[if_pos F]at D;exact V4m
 rw[if_neg F]at D;by_cases M:r.kind=8
 ·rw[if_pos M]at D;exact V4m
 rw[if_neg M]at D;by_cases J:r.kind=9
 ·grind
 rw[if_neg J]at D;by_cases U:r.kind=10
 ·grind
 rw[if_neg U]at D;by_cases C:r.kind=12
 ·rw[if_pos C]at D;exact E6f
 rw[if_neg C]at D;exact E6f
theorem x7x{r}(h:right r=0)(G:r.kind≠15):0<=value r/\value r<=65535:=by
 unfold value;split
 ·omega
 ·split
  ·omega
  ·split
   ·omega
   ·rename_i h34
    split
    ·omega
    ·split
     ·omega
     ·have:=y1P h G (fun e=>h34 (.inr e));omega
theorem x8G{b}(h:nameL b=true):b.size=4:=by
 unfold nameL at h;split at h
 ·rename_i a b c d he
  have:=congrArg List.length he;exact W2K
 ·cases h
theorem z1a{r}(h:right r=0)(j:r.kind=15):r.name.size=4/\r.other.size=4:=by
 have o:=x0x h;unfold right at h;rw[if_neg o,if_pos j]at h;obtain⟨_,_,_,Z,D,_⟩:=x1x h;exact⟨x8G Z,x8G D⟩
theorem x2S{c}(h:scalar c=true):0<=c/\c<=1114111:=by
 unfold scalar at h;have:=o0d h;omega
end Cn
theorem y2A v rs w(C:Glob w)(N:Rcs w v rs):Calls prog 22 #[v] w (CpB w rs):=by
 refine y0I v rs w N (z9s v rs w C N) fun R W P=>?_;have q:=(Cn.x0I.1 R).1;obtain⟨_,z,_⟩:=Cn.x0k.1 q;refine y0J v rs W (C.on P) (N.below P) q (fun r u G=>Cn.x7x (z r u) G) (fun r u y=>?_) (fun r u j=>?_)
 ·obtain⟨_,D,J⟩:=Cn.x0C (z r u) y;have H:=(Cn.x0v J).1;have K:=Cn.x2S D;exact⟨f6J,K.1,K.2⟩
 ·obtain⟨Z,D⟩:=Cn.z1a (z r u) j;exact⟨by unfold Sh;exact f6J,by unfold Sh;exact f6J⟩
section
variable {W W':World} {B p:Nat} {v vl c1 c2 x:Value} {xs:List Tri.Rg} {fs rs:List Rec}
theorem TrP.keep(h:TrP W B v xs)(L:W.heap.size<=W'.heap.size)(G:∀k,B<=k->k<W.heap.size->W'.heap[k]?=W.heap[k]?):TrP W' B v xs:=by
 obtain⟨a,m,e,p,s,t⟩:=h;exact⟨a,m,e,p,s,T4.keep t L G⟩
theorem SpP.keep(h:SpP W B v vl fs)(L:W.heap.size<=W'.heap.size)(G:∀k,B<=k->k<W.heap.size->W'.heap[k]?=W.heap[k]?):SpP W' B v vl fs:=by
 obtain⟨t,ps,u,e⟩:=h;exact⟨t.keep L G,ps,⟨x6m u.1 G,fun p s=>⟨(u.2 p s).1,(u.2 p s).2.1,x6m (u.2 p s).2.2 G⟩⟩,e⟩
theorem GAt.keep{K:Value->Prop}{r}{c:Value->Option Value}(h:GAt K W r c)(hr:B<=r)(G:∀k,B<=k->k<W.heap.size->W'.heap[k]?=W.heap[k]?):GAt K W' r c:=by
 obtain⟨U,q,Z,D⟩:=h;exact⟨U,q,by rw[G r hr (x6R Z)];exact Z,D⟩
theorem x0m.keep(h:x0m W B p rs)(L:W.heap.size<=W'.heap.size)(G:∀k,B<=k->k<W.heap.size->W'.heap[k]?=W.heap[k]?):x0m W' B p rs:=by
 obtain⟨l,R,U,X,S,t,P,f,F,T,y,o,H,Q,n,c1,c2,u,Z,D,J⟩:=h;refine⟨l,R,U,X,S,t,P,f,F,T,y,o,H,Q,n,c1,c2,u,by rw[G p D (x6R Z)];exact Z,D,⟨J.p1.keep L G,J.p2.keep L G,J.p3.keep L G,J.p4.keep L G,J.p5.keep L G,J.q1.keep L G,J.q2.keep L G,J.q3.keep L G,J.q4.keep L G,J.q5.keep L G,?_,?_⟩⟩
 ·obtain⟨I,r2,C,E,b1,m,i,A⟩:=J.co;exact⟨I,r2,C,E,b1,m,i.keep b1 G,A.keep m G⟩
 ·obtain⟨r,e,b,c,g⟩:=J.mi;exact⟨r,e,b,c,g.keep b G⟩
theorem x0m.lower{B'}(h:x0m W B p rs)(L:B'<=B):x0m W B' p rs:=by
 obtain⟨l,R,U,X,S,t,P,f,A,T,y,o,C,Q,n,c1,c2,u,Z,D,J⟩:=h;exact⟨l,R,U,X,S,t,P,f,A,T,y,o,C,Q,n,c1,c2,u,Z,f6J,J.p1.lower L,J.p2.lower L,J.p3.lower L,J.p4.lower L,J.p5.lower L,J.q1.lower L,J.q2.lower L,J.q3.lower L,J.q4.lower L,J.q5.lower L,J.co.lower L,J.mi.lower L⟩
end
open Ti
namespace Cn
def vget(rs:List Rec)(f c:Int):Int:=match hit rs f c with | some r=>value r | Option.none=>0
def rget(rs:List Rec)(f c:Int):Rec:=match hit rs f c with | some r=>r | Option.none=>none
end Cn
def y7v(w:World)(b:Bool)(e:Ending)(w':World):Prop:=e=.returned (.bool b)/\∃m,w'=w.drewN m
theorem tget{W B t rs}{f}(b:TrP W B t (Cn.rangesA (fun _ r=>Cn.value r) 1 (Cn.famOf f rs)))(q:(Cn.check6 rs).2=0)(o:f≠10/\f≠0) c(I:Fi c):Calls prog 38 #[t,.int .i64 c] W (x1o W (Cn.vget rs f c)):=by
 obtain⟨a,m,e,s,L,X⟩:=b;have z:=(Cn.x0k.1 q).2.1;have N:=Cn.y7r q o (fun r u D=>Cn.x7x (z r u) (fun e=>o.1 (by rw[<- D,e];exact e8M))) s L;have:=get4 t m 0 c W ⟨B,X⟩ I;rw[N.2 c]at this;exact this
theorem x7B{B p rs} c w(F:x0m w B p rs)(q:(Cn.check6 rs).2=0)(I:Rune c):Calls prog 16 #[.pointer (some ⟨p,0,none⟩),.int .i32 c] w (x1o w (Cn.vget rs 1 c)):=by
 obtain⟨l,R,U,X,S,t,P,f,E,T,y,o,L,Q,n,c1,c2,u,Z,D,J⟩:=F;obtain⟨H,g⟩:=I;have K:=O (tget J.p1 q e8N c ⟨f6J,f6J⟩);have x:w.cell? ⟨p,0,none⟩=some l:=cell_of (j:=0) Z (by show 0<18;exact f6J);obtain⟨a,m,e,-⟩:=J.p1;subst e;go_enter func16,ntmps16;exact S5g
theorem x8s{B p rs} c w(F:x0m w B p rs)(q:(Cn.check6 rs).2=0)(I:Rune c):Calls prog 161 #[.pointer (some ⟨p,0,none⟩),.int .i32 c] w (x1o w (Cn.vget rs 2 c)):=by
 obtain⟨l,R,U,X,S,t,P,f,E,T,y,o,L,Q,n,c1,c2,u,Z,D,J⟩:=F;obtain⟨H,g⟩:=I;have K:=O (tget J.p2 q e8N c ⟨f6J,f6J⟩);have x:w.cell? ⟨p,1,none⟩=some R:=cell_of (j:=1) Z (by show 1<18;exact f6J);obtain⟨a,m,e,-⟩:=J.p2;subst e;go_enter func161,ntmps161;exact S5g
theorem y7X{B p rs} c w(F:x0m w B p rs)(q:(Cn.check6 rs).2=0)(I:Rune c):Calls prog 167 #[.pointer (some ⟨p,0,none⟩),.int .i32 c] w (x1o w (Cn.vget rs 4 c)):=by
 obtain⟨l,R,U,X,S,t,P,f,E,T,y,o,L,Q,n,c1,c2,u,Z,D,J⟩:=F;obtain⟨H,g⟩:=I;have K:=O (tget J.p3 q e8N c ⟨f6J,f6J⟩);have x:w.cell? ⟨p,2,none⟩=some U:=cell_of (j:=2) Z (by show 2<18;exact f6J);obtain⟨a,m,e,-⟩:=J.p3;subst e;go_enter func167,ntmps167;exact S5g
theorem y9E{B p rs} c w(F:x0m w B p rs)(q:(Cn.check6 rs).2=0)(I:Rune c):Calls prog 311 #[.pointer (some ⟨p,0,none⟩),.int .i32 c] w (x1o w (Cn.vget rs 5 c)):=by
 obtain⟨l,R,U,X,S,t,P,f,E,T,y,o,L,Q,n,c1,c2,u,Z,D,J⟩:=F;obtain⟨H,g⟩:=I;have K:=O (tget J.p4 q e8N c ⟨f6J,f6J⟩);have x:w.cell? ⟨p,3,none⟩=some X:=cell_of (j:=3) Z (by show 3<18;exact f6J);obtain⟨a,m,e,-⟩:=J.p4;subst e;go_enter func311,ntmps311;exact S5g
theorem y9Y{B p rs} c w(F:x0m w B p rs)(q:(Cn.check6 rs).2=0)(I:Rune c):Calls prog 218 #[.pointer (some ⟨p,0,none⟩),.int .i32 c] w (y7v w (Cn.vget rs 6 c != 0)):=by
 obtain⟨l,R,U,X,S,t,P,f,E,T,y,o,L,Q,n,c1,c2,u,Z,D,J⟩:=F;obtain⟨H,g⟩:=I;have K:=O (tget J.p5 q e8N c ⟨f6J,f6J⟩);have x:w.cell? ⟨p,4,none⟩=some S:=cell_of (j:=4) Z (by show 4<18;exact f6J);obtain⟨a,m,e,-⟩:=J.p5;subst e;go_enter func218,ntmps218;exact S5g
namespace Cn
theorem y9L{k f}(h:fam k=f):(f=1->1<=k/\k<=5)/\(f=2->k=6)/\(3<f->k=f+5):=by
 subst h;unfold fam;split
 ·omega
 ·omega
variable {rs:List Rec}
theorem z1M{r}(h:6<=r.kind)(D:r.kind≠11):value r=r.n:=by
 unfold value;rw[if_neg f6J,if_neg f6J,if_neg f6J,if_neg f6J,if_neg D]
theorem z4Q(q:(check6 rs).2=0) c:cls rs c=vget rs 2 c:=by
 unfold cls vget
 cases he:hit rs 2 c with
 | none=>rfl
 | some r =>
  have G:=(y9L ((x1M q e8N r).1 he).2.1).2.1 rfl;exact(z1M f6J f6J).symm
end Cn
structure Ovr(w w1 w4 W:World)(ao:Option Addr)(ps:List (Rec×Value))(k:Nat):Prop where
 sz:W.heap.size=w4.heap.size
 bel:Below w.heap.size w W
 far:∀b,w1.heap.size<=b->W.heap[b]?=w4.heap[b]?
 rcd:ps.length=0\/∃g cur,ao=some ⟨g,0,none⟩/\w.heap.size<=g/\g<w1.heap.size/\W.heap[g]?=some (.cells cur 60 (0,0))/\ps.length*8<=cur.size/\∀i,k<=i->i<ps.length->cur.getD (i*8+4) undef=(ps.getD i (Cn.none,undef)).2
 lst:∀q∈ps,q.1.to≠[]->∃gi capi cur,q.2=.slice (some ⟨gi,0,none⟩) q.1.to.length capi/\w.heap.size<=gi/\gi<w1.heap.size/\W.heap[gi]?=some (.cells cur 21 (0,0))/\q.1.to.length<=cur.size
section
variable {w w1 w4 W:World} {ao:Option Addr} {ps:List (Rec×Value)} {cap k:Nat}
theorem Ovr.start(h:Rown w1 w.heap.size (.slice ao ps.length cap) ps)(Y:Bw w w4)(M:Bw w1 w4):Ovr w w1 w4 w4 ao ps 0:=by
 refine⟨rfl,Y,fun k _=>rfl,?_,fun q d y=>?_⟩
 ·rcases h.1.2 with⟨_,R⟩ | ⟨g,t,P,r,C,H,F,I,L,U⟩
  ·exact .inl R
  ·obtain⟨A,_,N⟩:=Value.slice.inj r;have E:g<w1.heap.size:=x6R H;refine .inr ⟨g,P,A,C,E,by rw[M.block g E];exact H,f6J,fun i _ hi=>?_⟩;have e:=x1t ps i 4 hi f6J;have S:(x0A (ps.getD i (Cn.none,undef)))[4]?=some (ps.getD i (Cn.none,undef)).2:=rfl;rw[S,<- U,List.getElem?_take,if_pos f6J,Array.getElem?_toList]at e;rw[Array.getD_eq_getD_getElem?,e];rfl
 ·have l:=h.2 q d;rcases l.row.2 with⟨_,R⟩ | ⟨g,t,P,r,C,H,F,I,L,U⟩
  ·grind
  ·have E:=(l.2.2.lt g (by rw[r];rfl)).2;exact⟨g,t,P,r,C,E,by rw[M.block g E];exact H,f6J⟩
theorem y1W(W:World) a v:(W.setCell a v).heap.size=W.heap.size:=by
 unfold World.setCell;exact f1X
theorem Ovr.item(h:Ovr w w1 w4 W ao ps k){gi cur}(i:w.heap.size<=gi)(g2:gi<w1.heap.size)(H:W.heap[gi]?=some (.cells cur 21 (0,0))) j v:Ovr w w1 w4 (W.setCell ⟨gi,j,none⟩ v) ao ps k:=by
 refine⟨by rw[y1W];exact h.sz,x0b h.bel i v,fun b Y=>by rw[x0e v f6J];exact h.far b Y,?_,fun q d y=>?_⟩
 ·rcases h.rcd with A | ⟨S,U,e,L,M,r,I⟩
  ·exact .inl A
  ·refine .inr ⟨S,U,e,L,M,?_,I⟩;rw[x0e v (fun e=>by subst e;rw[H]at r;simp at r)];exact r
 ·obtain⟨S,T,U,t,E,N,R,P⟩:=h.lst q d y;by_cases C:S=gi
  ·subst C;rw[H]at R;simp only[Option.some.injEq,Obj.cells.injEq,and_true]at R;subst R;exact⟨S,T,_,t,E,N,x0c H v,by rw[Array.size_setIfInBounds];exact P⟩
  ·exact⟨S,T,U,t,E,N,by rw[x0e v C];exact R,P⟩
theorem z0L W g off(q:Rec×Value):(putR W g off q).heap.size=W.heap.size:=by
 unfold putR;simp only[y1W]
theorem Ovr.wipe(h:Ovr w w1 w4 W ao ps k){g}(C:ao=some ⟨g,0,none⟩)(G:k<ps.length)(q:Rec×Value):Ovr w w1 w4 (putR W g (k*8) q) ao ps (k+1):=by
 rcases h.rcd with F | ⟨S,P,e,i,A,H,L,I⟩
 ·omega
 ·rw[C]at e;simp only[Option.some.injEq,Addr.mk.injEq,and_true]at e;subst e;refine⟨by rw[z0L];exact h.sz,x8M h.bel i q,fun b Y=>by rw[y0b q f6J];exact h.far b Y,.inr ⟨g,_,C,i,A,z0K H q,by rw[z1m];exact L,fun j X d=>?_⟩,fun p s y=>?_⟩
  ·rw[<- I j f6J d];simp only[Array.getD_eq_getD_getElem?];rw[z1l P (k*8) q f6J,if_neg f6J]
  ·obtain⟨M,T,U,t,E,N,R,D⟩:=h.lst p s y;refine⟨M,T,U,t,E,N,?_,D⟩;rw[y0b q (fun e=>by subst e;rw[H]at R;simp at R)];exact R
end
namespace Cn
def x1c(r:Rec):Bool :=
  if r.kind=1\/r.kind=2\/r.kind=11 then bare r false false false false false
  else if r.kind=3 then bare r false true false false false&&list r.to 1 24
  else if r.kind=4 then bare r true true false false false&&decide (1<=r.n/\r.n<=64)&&list r.to 1 1&&decide (r.to.getD 0 0+r.hi-r.lo<=1114111/\(r.to.getD 0 0+r.hi-r.lo<55296\/57343<r.to.getD 0 0))
  else if r.kind=5 then decide (r.lo=r.hi)&&scalar r.lo&&bare r false true false false false&&list r.to 0 24
  else if r.kind=13 then decide (r.lo=r.hi)&&scalar r.lo&&bare r false true false false false&&list r.to 1 24
  else if r.kind=6 then bare r true false false false false&&decide (1<=r.n/\r.n<=254)
  else if r.kind=7 then decide (r.lo=r.hi)&&scalar r.lo&&bare r false true false false false&&list r.to 2 2
  else if r.kind=8 then decide (r.lo=r.hi)&&scalar r.lo&&bare r false true false false false&&list r.to 1 2
  else if r.kind=9 then bare r true false false false false&&decide (0<=r.n/\r.n<=10)
  else if r.kind=10 then bare r true false false false false&&decide (0<=r.n/\r.n<=5)
  else if r.kind=12 then bare r false false true false false&&nameL r.name
  else bare r false false false false true&&weight r.wt
theorem y6S{r}(h:fam r.kind=0):right r=60:=by unfold right;rw[if_pos h]
theorem z4q{r}(h:r.kind=15):right r=ansG (decide (r.lo=0)&&decide (r.hi=0)&&bare r false false true true true&&nameL r.name&&nameL r.other&&decide (r.name≠r.other)&&weight r.wt):=by
 unfold right ansG;rw[if_neg s8h,if_pos h];simp[and_assoc]
theorem y6R{r}(R:fam r.kind≠0)(j:r.kind≠15):right r=ansG (decide (0<=r.lo/\r.lo<=r.hi/\r.hi<=1114111)&&x1c r):=by
 unfold right;rw[if_neg R,if_neg j];rfl
theorem y8R{k}(h:fam k≠0):1<=k/\k<=15:=by
 unfold fam at h;split at h
 ·exact absurd rfl h
 ·omega
end Cn
theorem q1o{r}(h:r.kind=1):Cn.x1c r=(Cn.bare r false false false false false):=g2A
theorem q1p{r}(h:r.kind=2):Cn.x1c r=(Cn.bare r false false false false false):=g2A
theorem q1q{r}(h:r.kind=3):Cn.x1c r=(Cn.bare r false true false false false&&Cn.list r.to 1 24):=g2A
theorem q1r{r}(h:r.kind=4):Cn.x1c r=(Cn.bare r true true false false false&&decide (1<=r.n/\r.n<=64)&&Cn.list r.to 1 1&&decide (r.to.getD 0 0+r.hi-r.lo<=1114111/\(r.to.getD 0 0+r.hi-r.lo<55296\/57343<r.to.getD 0 0))):=g2A
theorem q1s{r}(h:r.kind=5):Cn.x1c r=((decide (r.lo=r.hi)&&Cn.scalar r.lo)&&Cn.bare r false true false false false&&Cn.list r.to 0 24):=g2A
theorem q1t{r}(h:r.kind=6):Cn.x1c r=(Cn.bare r true false false false false&&decide (1<=r.n/\r.n<=254)):=g2A
theorem q1u{r}(h:r.kind=7):Cn.x1c r=((decide (r.lo=r.hi)&&Cn.scalar r.lo)&&Cn.bare r false true false false false&&Cn.list r.to 2 2):=g2A
theorem q1v{r}(h:r.kind=8):Cn.x1c r=((decide (r.lo=r.hi)&&Cn.scalar r.lo)&&Cn.bare r false true false false false&&Cn.list r.to 1 2):=g2A
theorem q1w{r}(h:r.kind=9):Cn.x1c r=(Cn.bare r true false false false false&&decide (0<=r.n/\r.n<=10)):=g2A
theorem z8A{r}(h:r.kind=10):Cn.x1c r=(Cn.bare r true false false false false&&decide (0<=r.n/\r.n<=5)):=g2A
theorem z8B{r}(h:r.kind=11):Cn.x1c r=(Cn.bare r false false false false false):=g2A
theorem z8C{r}(h:r.kind=12):Cn.x1c r=(Cn.bare r false false true false false&&Cn.nameL r.name):=g2A
theorem z8D{r}(h:r.kind=13):Cn.x1c r=((decide (r.lo=r.hi)&&Cn.scalar r.lo)&&Cn.bare r false true false false false&&Cn.list r.to 1 24):=g2A
theorem z8E{r}(h:r.kind=14):Cn.x1c r=(Cn.bare r false false false false true&&Cn.weight r.wt):=g2A
theorem y1N:z5c:=by
 intro r X w o L;obtain⟨ao,K,rfl,D,_⟩:=L.shape;unfold recV;by_cases Y:Cn.fam r.kind=0
 ·rw[Cn.y6S Y];exact z8m r.kind r.lo r.hi r.n ao r.to.length K r.name r.other r.wt w o.kind Y
 ·have C:Hid (∀W N M g U c,Bw w W->Calls prog 122 #[recV r (.slice ao r.to.length K),.bool N,.bool M,.bool g,.bool U,.bool c] W (x0g W (Cn.bare r N M g U c))):=fun W N M g U c h=>y3q r _ N M g U c W (L.below h);unfold recV at C;have KN:Hid (∀W,Calls prog 123 #[.string r.name] W fun e F=>e=.returned (.bool (Cn.nameL r.name))/\F=W):=fun W=>x5D r.name W;have l:Hid (∀W,Calls prog 124 #[.float .f64 r.wt] W fun e F=>e=.returned (.bool (Cn.weight r.wt))/\F=W):=fun W=>y0h r.wt W o.wt;by_cases j:r.kind=15
  ·rw[Cn.z4q j];have J:Hid (∀W,Calls prog 123 #[.string r.other] W fun e F=>e=.returned (.bool (Cn.nameL r.other))/\F=W):=fun W=>x5D r.other W;rw[j]at C ⊢;exact rw_15 r.lo r.hi r.n ao r.to.length K r.name r.other r.wt w o.lo o.hi _ _ _ _ (fun W h=>V C W false false true true true h) KN J l
  ·have KL:∀a b:Nat,Hid (∀W,Bw w W->Calls prog 126 #[.slice ao r.to.length K,.int .i64 a,.int .i64 b] W fun e F=>e=.returned (.bool (Cn.list r.to a b))/\F=W):=fun a b W h=>y3r _ r.to a b W (L.below h) o.len;have G:=Cn.y8R Y;rw[Cn.y6R Y j];have hd:decide (0<=r.lo/\r.lo<=r.hi/\r.hi<=1114111)=decide (0<=r.lo/\r.lo<=r.hi/\r.hi<=1114111):=rfl;have E:∀{a b:Bool},a=b->ansG (decide (0<=r.lo/\r.lo<=r.hi/\r.hi<=1114111)&&a)=ansG (decide (0<=r.lo/\r.lo<=r.hi/\r.hi<=1114111)&&b):=fun h=>(by rw[h]);have A:Hid (decide (0<=r.lo/\r.lo<=r.hi/\r.hi<=1114111)=true->(decide (r.lo=r.hi)&&Cn.scalar r.lo)=(decide (r.lo=r.hi)&&Cn.scalar r.lo)):=fun _=>rfl;have H:(r.kind=1\/r.kind=2)\/(r.kind=11\/r.kind=3)\/(r.kind=5\/r.kind=13)\/(r.kind=6\/r.kind=9)\/(r.kind=7\/r.kind=8)\/(r.kind=12\/r.kind=14)\/(r.kind=4)\/(r.kind=10):=f6J;rcases H with hk1 | hk1 | hk1 | hk1 | hk1 | hk1 | hk1 | hk1
   ·exact rwg_a r.kind r.lo r.hi r.n hk1 ao r.to.length K r.name r.other r.wt w o.lo o.hi _ _ _ hd A (Cn.bare r) C (fun e=>E (q1o e)) (fun e=>E (q1p e))
   ·exact rwg_b r.kind r.lo r.hi r.n hk1 ao r.to.length K r.name r.other r.wt w o.lo o.hi _ _ _ hd A (Cn.bare r) C _ (KL 1 24) (fun e=>E (z8B e)) (fun e=>E (q1q e))
   ·exact rwg_c r.kind r.lo r.hi r.n hk1 ao r.to.length K r.name r.other r.wt w o.lo o.hi _ _ _ hd A (Cn.bare r) C _ (KL 0 24) _ (KL 1 24) (fun e=>E (q1s e)) (fun e=>E (z8D e))
   ·exact rwg_f r.kind r.lo r.hi r.n hk1 ao r.to.length K r.name r.other r.wt w o.lo o.hi o.n _ _ _ hd A (Cn.bare r) C (decide (1<=r.n/\r.n<=254)) (fun h=>o0d h) (fun h=>g2b) (decide (0<=r.n/\r.n<=10)) (fun h=>o0d h) (fun h=>g2b) (fun e=>E (q1t e)) (fun e=>E (q1w e))
   ·exact rwg_d r.kind r.lo r.hi r.n hk1 ao r.to.length K r.name r.other r.wt w o.lo o.hi _ _ _ hd A (Cn.bare r) C _ (KL 2 2) _ (KL 1 2) (fun e=>E (q1u e)) (fun e=>E (q1v e))
   ·exact rwg_h r.kind r.lo r.hi r.n hk1 ao r.to.length K r.name r.other r.wt w o.lo o.hi _ _ _ hd A (Cn.bare r) C _ KN _ l (fun e=>E (z8C e)) (fun e=>E (z8E e))
   ·have Q:Hid (Cn.list r.to 1 1=true->Rune (r.to.getD 0 0)/\∃b R,ao=some ⟨b,R,none⟩/\r.to.length=1/\r.to.length<=K/\∀W,Bw w W->W.cell? ⟨b,R,none⟩=some (.int .i32 (r.to.getD 0 0))):=fun h=>by
     unfold Cn.list at h;rw[Bool.and_eq_true]at h;have Z:=o0d h.1;have S:r.to.length=1:=f6J;obtain⟨b,R,cap,P,c1,c2,I⟩:=L.place f6J;simp only[Value.slice.injEq,true_and]at P;obtain⟨rfl,rfl⟩:=P;refine⟨x0W L f6J,b,R,rfl,S,D,fun W d=>?_⟩;have T:=I 0 f6J;rw[Nat.add_zero]at T;rw[d.cell (x0a T)];exact T
    exact rwg_e r.kind r.lo r.hi r.n hk1 ao r.to.length K r.name r.other r.wt w o.lo o.hi o.n _ _ _ hd A (Cn.bare r) C _ (KL 1 1) (r.to.getD 0 0) Q (decide (r.to.getD 0 0+r.hi-r.lo<=1114111/\(r.to.getD 0 0+r.hi-r.lo<55296\/57343<r.to.getD 0 0))) (fun h=>o0d h) (fun h=>g2b) (decide (1<=r.n/\r.n<=64)) (fun h=>o0d h) (fun h=>g2b) (fun e=>E (q1r e))
   ·exact rwg_g r.kind r.lo r.hi r.n hk1 ao r.to.length K r.name r.other r.wt w o.lo o.hi o.n _ _ _ hd A (Cn.bare r) C (decide (0<=r.n/\r.n<=5)) (fun h=>o0d h) (fun h=>g2b) (fun e=>E (z8A e))
theorem z0T:y2k:=y0f y1N y1L
theorem z0U:y7C:=y1K z0T y0g
namespace Cn
theorem x4I{l}(h:(check l).2=0):(check l).1=0:=by
 unfold check at h ⊢;by_cases Z:(check6 l).2≠0
 ·grind
 ·rw[if_neg Z]at h ⊢
  cases hx:x0S l 0 l with
  | some x=>rw[hx]at h;exact absurd h (x3H _ _ _ hx)
  | none=>grind
end Cn
theorem y3o{w1 B v}{ps:List (Rec×Value)}{rs}(hr:Rown w1 B v ps)(s:ps.map (·.1)=rs)(S:rs.length<=1000000000)(o:∀r∈rs,RecFit r):Rcs w1 v rs:=by
 subst s;exact hr.rcs t2Y fun p H=>o _ (List.mem_map.2 ⟨p,H,rfl⟩)
theorem Rown.lower9{w B B' v}{ps:List (Rec×Value)}(h:Rown w B v ps)(Y:B'<=B):Rown w B' v ps:=⟨z1d h.1 Y,fun p s=>(h.2 p s).lower Y⟩
def z9g(w:World)(rs:List Rec)(e:Ending)(w':World):Prop:=Below w.heap.size w w'/\((¬(Cn.check rs).2=0/\e=.returned (.tuple #[.pointer none,.slice none 0 0,.int .i64 0]))\/((Cn.check rs).2=0/\∃p v ps,e=.returned (.tuple #[.pointer (some ⟨p,0,none⟩),v,.int .i64 1])/\x0m w' w.heap.size p rs/\Rown w' w.heap.size v ps/\ps.map (·.1)=rs))
theorem y4I v rs0 w(hg:Glob w)(N:Rcs w v rs0):Calls prog 8 #[v] w (z9g w (rs0.take 150)):=by
 have aM:=N.1;obtain⟨ao,cap,rfl,aR,aS⟩:=N.shape;obtain⟨n,hn⟩:∃n,n=min rs0.length 150:=⟨_,rfl⟩;have aN:min (rs0.length:Int) 150=(n:Int):=f6J;have aG:n<=rs0.length:=f6J;have aX:n<=150:=f6J;have Q:rs0.take 150=rs0.take n:=(by rw[hn,List.take_eq_take_min,Nat.min_comm]);have hH:=N.head aG;rw[Q];have s:∀r∈rs0.take n,RecFit r:=fun r hr=>N.2.1 r (List.mem_of_mem_take hr);have aI:(rs0.take n).length=n:=U3C;clear Q hn N;generalize rs0.take n=rs,rs0.length=L at *;have K1:=O (x4n _ _ w hH);have R:=O s;have l:=O aI;have HG:=O hg;go_enter func8,ntmps8;go_wp2_with fail;refine(V K1).mono ?_;rintro e1 w1 ⟨v1,ab,rfl,p1,r1,b1⟩;have Y:=y3o r1 p1 (by rw[V l];exact f6J) (V R);have K2:=O (x4n _ _ w1 Y);obtain⟨t,aB,d,_,aK⟩:=Y.shape;rw[V l]at d;have G:ab.length=n:=(by have:=congrArg List.length p1;rw[List.length_map,V l]at this;exact this);subst d;have S:=O Y;have ai:=O r1;have af:=O b1;have ae:=O G;go_wp2_with fail;refine(V K2).mono ?_;rintro e2 w2 ⟨v2,aJ,rfl,p2,r2,b2⟩;have E:=y3o r2 p2 (by rw[V l];exact f6J) (V R);have K3:=O (z0U _ _ w2 E);obtain⟨a2,D,X,_,aL⟩:=E.shape;rw[V l]at X;subst X;have az:=O E;have aq:=O r2;have i:=O b2;go_wp2_with fail;refine c0m K3 fun w3 b3=>?_;have J:=O b3;have K4:=O (y2A _ rs w3 (((V HG).on (V af)).on (bthen (V i) b3)) ((V S).below (bthen (V i) b3)));go_wp2_with fail;refine(V K4).mono ?_;rintro e4 w4 ⟨b4,h4⟩;have U:=O b4;have A:=O (y3x _ _ rs w4 ((V S).below (bthen (bthen (V i) (V J)) b4)) ((V az).below (bthen (V J) b4)));rcases h4 with⟨y,rfl⟩ | ⟨h0,p,rfl,hD⟩
 ·have am:=O y;have hq:((Cn.check rs).2 != 0)=true:=bne_iff_ne.2 y;generalize hck:Cn.check rs=q at *;have c:=O hck;obtain⟨q1,q2⟩:=q;simp only at hq;go_wp2_with(go_at_call 23;refine(V A).mono ?_;rintro e5 w5 ⟨rfl,K⟩;have F:=O K;clear A K);go_ret3;exact⟨bthen (bthen (V af) (bthen (bthen (V i) (V J)) (V U))) (V F),.inl ⟨by rw[V c];exact V am,rfl⟩⟩
 ·have hz:=Cn.x4I h0;have aQ:=O h0;have HD:=O hD;generalize hck:Cn.check rs=q at *;have c:=O hck;obtain⟨q1,q2⟩:=q;simp only at h0 hz;subst h0 hz;go_wp2_with(go_at_call 23;refine(V A).mono ?_;rintro e5 w5 ⟨rfl,K⟩;have F:=O K;clear A K);have C:=O (bthen (bthen (bthen (V i) (V J)) (V U)) (V F));have ay:=O (Ovr.start (w:=w) (w1:=w1) (w4:=w5) (cap:=aB) (ao:=t) (ps:=ab) (by rw[V ae];exact V ai) (bthen (V af) (V C)) (V C))
  have aj:Hid (∀k,k<n->∃Z ck,(ab.getD k (Cn.none,undef)).2=.slice Z (ab.getD k (Cn.none,undef)).1.to.length ck/\(ab.getD k (Cn.none,undef)).1.to.length<=140737488355328/\ck<=9223372036854775807/\(ab.getD k (Cn.none,undef)).1.to.length<=ck):=fun k hk=>by
   have hm:ab.getD k (Cn.none,undef)∈ab:=by
    have:=V ae;simp[List.getD,(f6J:k<ab.length)]
   obtain⟨Z,ck,e,h1,h2⟩:=((V ai).2 _ hm).sk.shape;exact⟨Z,ck,e,((V ai).2 _ hm).sk.len,h2,h1⟩
  have z:Hid (∀W k,Ovr w w1 w5 W t ab k->z9g w rs (.returned (.tuple #[.pointer (some ⟨p,0,none⟩),.slice a2 n D,.int .i64 1])) W):=fun W k hO=>by
   have aO:=(V i).size;have aP:=(bthen (V i) (V J)).size;have be:=(V af).size;refine⟨hO.bel,.inr ⟨by rw[V c],p,_,aJ,rfl,?_,?_,p2⟩⟩
   ·exact(((V HD).below (V F)).keep (by rw[hO.sz];exact l0r _) (fun b hb _=>hO.far b f6J)).lower f6J
   ·exact(((V aq).on7 (bthen (bthen (V J) (V U)) (V F))).far7 (fun b hb _=>hO.far b hb)).lower9 f6J
  go_loopw[12,13] (fun ii _ wr=>∃k:Nat,ii=.int .i64 k/\k<=n/\Ovr w w1 w5 wr t ab k) (fun ii _ _=>n-(intOf ii).toNat)
  case atStart=>exact⟨0,rfl,f6J,V ay⟩
  case round =>
   obtain⟨k,rfl,hk,hO⟩:=hrel;by_cases aF:k<n
   ·have G:=V ae;obtain⟨Z,ck,aH,aY,aZ,ba⟩:=V aj k aF;have hm:ab.getD k (Cn.none,undef)∈ab:=by simp[List.getD,(f6J:k<ab.length)]
    obtain⟨g,aD⟩:∃g,t=some ⟨g,0,none⟩:=by
     rcases hO.rcd with h0 | ⟨g,P,e,_⟩
     ·omega
     ·exact⟨g,e⟩
    subst aD
    have u:Hid (∀W,Ovr w w1 w5 W (some ⟨g,0,none⟩) ab k->W.cell? ⟨g,k*8+4,none⟩=some (ab.getD k (Cn.none,undef)).2/\∃P,W.heap[g]?=some (.cells P 60 (0,0))/\k*8+8<=P.size):=fun W h=>by
     rcases h.rcd with h0 | ⟨g',P,e,_,_,H,hs,hc⟩
     ·omega
     ·simp only[Option.some.injEq,Addr.mk.injEq,and_true]at e;subst e;exact⟨by rw[cell_of (j:=k*8+4) H f6J,hc k (l0r _) f6J],P,H,f6J⟩
    have I:Hid (∀W,Ovr w w1 w5 W (some ⟨g,0,none⟩) ab k->(ab.getD k (Cn.none,undef)).1.to≠[]->∃M T P,(ab.getD k (Cn.none,undef)).2=.slice (some ⟨M,0,none⟩) (ab.getD k (Cn.none,undef)).1.to.length T/\w.heap.size<=M/\M<w1.heap.size/\W.heap[M]?=some (.cells P 21 (0,0))/\(ab.getD k (Cn.none,undef)).1.to.length<=P.size):=fun W h=>h.lst _ hm;have aA:Hid (∀W,Ovr w w1 w5 W (some ⟨g,0,none⟩) ab k->Ovr w w1 w5 (putR W g (k*8) (Cn.none,.slice none 0 0)) (some ⟨g,0,none⟩) ab (k+1)):=fun W h=>h.wipe rfl f6J _;have HO:=O hO;rw[aH]at u I;generalize hql:(ab.getD k (Cn.none,undef)).1.to.length=tl at *;have o:=O hql;go_upto_block 2 with fail;go_cut[13] (fun _ wc=>Ovr w w1 w5 wc (some ⟨g,0,none⟩) ab k)
    case first =>
     go_wp2;go_loopw[13] (fun jj wd=>∃j:Nat,jj=.int .i64 j/\j<=tl/\Ovr w w1 w5 wd (some ⟨g,0,none⟩) ab k) (fun jj _=>tl-(intOf jj).toNat)
     case atStart=>exact⟨0,rfl,f6J,V HO⟩
     case round =>
      obtain⟨j,rfl,hj,ag⟩:=hrel;obtain⟨aC,-⟩:=V u wr ag;by_cases aW:j<tl
      ·obtain⟨M,T,P,e,g1,g2,H,f⟩:=V I wr ag (fun e=>by have:=V o;rw[e]at this;simp at this;exact f6J);obtain⟨e1,e2,e3⟩:=Value.slice.inj e;subst e1 e3;have aT:=cell_of (j:=j) H f6J;have aV:=x0d (j:=j) H;have aw:=O (ag.item g1 g2 H j (.int .i32 65));generalize P.getD j undef=uj at *;go_wp2
       go_roundw
       case rel=>exact⟨j+1,g2B,f6J,V aw⟩
       case measure=>exact g7T
      ·have ar:=O ag;go_wp2
       go_meet
       case rel=>exact V ar
    case rest =>
     obtain⟨aC,P,H,f⟩:=V u wc hcut;have HW:=O (V aA wc hcut);have y0:=cell_of (j:=k*8) H f6J;have y1:=cell_of (j:=k*8+1) H f6J;have y2:=cell_of (j:=k*8+2) H f6J;have y3:=cell_of (j:=k*8+3) H f6J;have y5:=cell_of (j:=k*8+5) H f6J;have y6:=cell_of (j:=k*8+6) H f6J;have y7:=cell_of (j:=k*8+7) H f6J;have fz:=fun j=>x0d (j:=j) H;have aU:∀W a m,(store a (.float .f64 0) m).run prog W=stored prog W a (.float .f64 0) m:=fun W a m=>run_store prog W a _ m rfl;generalize P.getD (k*8) undef=uy0,P.getD (k*8+1) undef=uy1,P.getD (k*8+2) undef=uy2,P.getD (k*8+3) undef=uy3,P.getD (k*8+5) undef=uy5,P.getD (k*8+6) undef=uy6,P.getD (k*8+7) undef=bh at *;go_wp2;exact⟨⟨k+1,g2B,f6J,V HW⟩,by simp[intOf];exact f6J⟩
   ·obtain rfl:k=n:=f6J;have HF:=O (V z wr k hO);go_wp2;go_ret3;exact V HF
namespace Cn
def mk3(k lo hi:Int):Rec:=⟨k,lo,hi,0,[],⟨#[]⟩,⟨#[]⟩,0⟩
def x2e:List Rec:=[mk3 1 97 122,mk3 1 48 57,mk3 1 45 46,⟨4,65,90,1,[97],⟨#[]⟩,⟨#[]⟩,0⟩,mk3 1 224 224,mk3 1 768 768,⟨7,224,224,0,[97,768],⟨#[]⟩,⟨#[]⟩,0⟩,⟨6,768,768,230,[],⟨#[]⟩,⟨#[]⟩,0⟩,mk3 11 768 768,⟨14,224,224,0,[],⟨#[]⟩,⟨#[]⟩,4591870180066957722⟩]
theorem y1p:check x2e=(0,0):=M3j
end Cn
def lpsA:List (Rec×Value):=[(Cn.mk3 1 97 122,.slice none 0 0),(Cn.mk3 1 48 57,.slice none 0 0),(Cn.mk3 1 45 46,.slice none 0 0)]
def lpsB(n:Nat):List (Rec×Value):=[(⟨4,65,90,1,[97],⟨#[]⟩,⟨#[]⟩,0⟩,.slice (some ⟨n,0,none⟩) 1 1),(Cn.mk3 1 224 224,.slice none 0 0),(Cn.mk3 1 768 768,.slice none 0 0)]
def lpsC(n:Nat):List (Rec×Value):=[(⟨7,224,224,0,[97,768],⟨#[]⟩,⟨#[]⟩,0⟩,.slice (some ⟨n,0,none⟩) 2 2),(⟨6,768,768,230,[],⟨#[]⟩,⟨#[]⟩,0⟩,.slice none 0 0),(Cn.mk3 11 768 768,.slice none 0 0),(⟨14,224,224,0,[],⟨#[]⟩,⟨#[]⟩,4591870180066957722⟩,.slice none 0 0)]
theorem x9W(w:World) B(l:B<=w.heap.size) c(I:-2147483648<=c/\c<=2147483647):Ok .i32 21 (w.alloc (.cells #[.int .i32 c] 21)) B (.slice (some ⟨w.heap.size,0,none⟩) 1 1) [c]:=by
 refine⟨fun z T=>by simp at T;subst T;exact x1i I,M7K,M7K,.inr ⟨w.heap.size,1,#[.int .i32 c],rfl,l,?_,l0r _,by unfold maxLen;exact M7K,M7K,M7K⟩⟩;exact R0n
theorem z7E(W:World) B(l:B<=W.heap.size)(ps:List (Rec×Value)) n(F:ps.length=n)(L:n<=100):(W.alloc (.cells (rcells ps).toArray 60)).ownsRow B 60 8 (.slice (some ⟨W.heap.size,0,none⟩) n n) n (rcells ps):=by
 subst F;refine⟨x1b ps,.inr ⟨W.heap.size,ps.length,(rcells ps).toArray,rfl,l,?_,l0r _,T7W,by rw[List.size_toArray,x1b],?_⟩⟩
 ·show(W.heap.push _)[W.heap.size]?=_;simp
 ·exact List.take_of_length_le (by rw[x1b];exact l0r _)
theorem y4H(W:World)(ps:List (Rec×Value)):∀j u,(rcells ps)[j]?=some u->(W.alloc (.cells (rcells ps).toArray 60)).cell? ((⟨W.heap.size,0,none⟩:Addr).add j)=some u:=by
 intro j u h
 have H:(W.alloc (.cells (rcells ps).toArray 60)).heap[W.heap.size]?=some (.cells (rcells ps).toArray 60 (0,0)):=by
  show(W.heap.push _)[W.heap.size]?=_;simp
 rw[addr_add,Nat.zero_add];have X:j<(rcells ps).length:=(List.getElem?_eq_some_iff.1 h).1;rw[cell_of (j:=j) H R1Z];rw[Array.getD_eq_getD_getElem?,List.getElem?_toArray,h];rfl
theorem x2i(ps A:List (Rec×Value)):rcells ps++rcells A=rcells (ps++A):=by unfold rcells;rw[List.flatMap_append]
theorem y1S{W1 W2 B v v'}{ps A:List (Rec×Value)}(F:Rown W1 B v ps)(d:∀q∈A,Ok .i32 21 W1 B q.2 q.1.to)(Q:W2.ownsRow B 60 8 v' (ps.length+A.length) (rcells ps++rcells A))(C:W1.grownBy W2 v.ownBlock):Rown W2 B v' (ps++A):=by
 refine⟨by rw[List.length_append,<- x2i];exact Q,fun p hp=>?_⟩;have S:∀p:Rec×Value,Ok .i32 21 W1 B p.2 p.1.to->Ok .i32 21 W2 B p.2 p.1.to:=fun p i=>i.keep fun g h=>C.block g (i.2.2.lt g h).2 (fun e=>x0N i.2.2 F.1 e8M h e.symm);rcases List.mem_append.1 hp with hp | hp
 ·exact S p (F.2 p hp)
 ·exact S p (d p hp)
theorem z0t(ps:List (Rec×Value))(h:∀p∈ps,p.2.oneCell'=true):∀u∈rcells ps,u.oneCell'=true:=by
 intro u d;obtain⟨p,s,d⟩:=List.mem_flatMap.1 d;exact x7r p.1 (h p s) u d
theorem Rown.alloc9{W B v}{ps:List (Rec×Value)}(h:Rown W B v ps) o:Rown (W.alloc o) B v ps:=h.on7 ((b0r).alloc (l0r _) o)
theorem y6q w:Calls prog 24 #[] w (x6v w Cn.x2e):=by
 obtain⟨i1,hj,am,M,S⟩:=info_parts Tryz.info60;obtain⟨WA,J⟩:∃WA,w.alloc (.cells (rcells lpsA).toArray 60)=WA:=⟨_,rfl⟩
 have hA:Rown WA w.heap.size (.slice (some ⟨w.heap.size,0,none⟩) 3 3) lpsA:=by
  rw[<- J];refine⟨z7E w w.heap.size (l0r _) lpsA 3 rfl f6J,fun p s=>?_⟩;simp only[lpsA,List.mem_cons,List.mem_nil_iff,or_false]at s;rcases s with rfl | rfl | rfl<;>exact Ok.nil _ _ _ _
 have az:Bw w WA:=(by rw[<- J];exact(b0r).alloc (l0r _) _);have U:WA.heap.size=w.heap.size+1:=(by rw[<- J];exact M7O);obtain⟨N,Q⟩:∃N,WA.alloc (.cells #[.int .i32 97] 21)=N:=⟨_,rfl⟩;have K:Bw w N:=(by rw[<- Q];exact az.alloc f6J _);have aI:N.heap.size=w.heap.size+2:=by rw[<- Q];exact P8P
 have aD:Ok .i32 21 N w.heap.size (.slice (some ⟨w.heap.size+1,0,none⟩) 1 1) [97]:=by
  have:=x9W WA w.heap.size f6J 97 f6J;rw[Q,U]at this;exact this
 have ay:Rown N w.heap.size (.slice (some ⟨w.heap.size,0,none⟩) 3 3) lpsA:=(by rw[<- Q];exact hA.alloc9 _);obtain⟨X,E⟩:∃X,N.alloc (.cells (rcells (lpsB (w.heap.size+1))).toArray 60)=X:=⟨_,rfl⟩;have aA:Bw w X:=(by rw[<- E];exact K.alloc f6J _);have aM:X.heap.size=w.heap.size+3:=(by rw[<- E];exact P8P);have A:=y4H N (lpsB (w.heap.size+1));rw[E,aI]at A;have ab:Rown X w.heap.size (.slice (some ⟨w.heap.size,0,none⟩) 3 3) lpsA:=by rw[<- E];exact ay.alloc9 _
 have aG:∀q∈lpsB (w.heap.size+1),Ok .i32 21 X w.heap.size q.2 q.1.to:=fun q d=>by
  simp only[lpsB,List.mem_cons,List.mem_nil_iff,or_false]at d;rcases d with rfl | rfl | rfl
  ·rw[<- E];exact aD.below ((b0r).alloc (l0r _) _)
  ·exact n7g
  ·exact n7g
 have j:=z0t (lpsB (w.heap.size+1)) (fun p s=>by
  simp only[lpsB,List.mem_cons,List.mem_nil_iff,or_false]at s
  rcases s with rfl | rfl | rfl<;>rfl)
 have P:=O ab;have H:Hid (X.ownsRow w.heap.size 60 8 (.slice (some ⟨w.heap.size,0,none⟩) 3 3) 3 (rcells lpsA)):=ab.1;have aw:=O aG;have C:=O A;have f:=O j;have ar:=O aA;replace J:w.alloc (.cells #[.int .i64 1,.int .i64 97,.int .i64 122,.int .i64 0,.slice none 0 0,.string ⟨#[]⟩,.string ⟨#[]⟩,.float .f64 0,.int .i64 1,.int .i64 48,.int .i64 57,.int .i64 0,.slice none 0 0,.string ⟨#[]⟩,.string ⟨#[]⟩,.float .f64 0,.int .i64 1,.int .i64 45,.int .i64 46,.int .i64 0,.slice none 0 0,.string ⟨#[]⟩,.string ⟨#[]⟩,.float .f64 0] 60)=WA:=J;replace E:N.alloc (.cells #[.int .i64 4,.int .i64 65,.int .i64 90,.int .i64 1,.slice (some ⟨w.heap.size+1,0,none⟩) 1 1,.string ⟨#[]⟩,.string ⟨#[]⟩,.float .f64 0,.int .i64 1,.int .i64 224,.int .i64 224,.int .i64 0,.slice none 0 0,.string ⟨#[]⟩,.string ⟨#[]⟩,.float .f64 0,.int .i64 1,.int .i64 768,.int .i64 768,.int .i64 0,.slice none 0 0,.string ⟨#[]⟩,.string ⟨#[]⟩,.float .f64 0] 60)=X:=E;go_enter func24,ntmps24;go_wp2_with(at_builtin;refine wpList_append_own _ rfl (.tmp 6) (.tmp 11) 22 rfl w.heap.size 60 i1 (.agg #[.int .i64 0,.int .i64 0,.int .i64 0,.int .i64 0,.slice none 0 0,.string ⟨#[]⟩,.string ⟨#[]⟩,.float .f64 0]) 8 96 underlying22 hj am M S rfl e8P _ _ _ rfl (V H) ⟨w.heap.size+2,0,none⟩ 3 3 (rcells (lpsB (w.heap.size+1))) rfl (by rw[x1b];rfl) (V C) (V f) T7X f6J f6J ?_);intro aq l D L _;have ae:Rown l w.heap.size aq (lpsA++lpsB (w.heap.size+1)):=y1S (V P) (V aw) D L;have I:Bw w l:=(V ar).grown L f6J (fun k hk=>((V P).1.lt k hk).1);have ai:=I.size
 have aj:∃g cap,aq=.slice (some ⟨g,0,none⟩) 6 cap:=by
  rcases D.2 with⟨_,h0⟩ | ⟨g,cap,aK,e,_⟩
  ·omega
  ·exact⟨g,cap,e⟩
 obtain⟨u,b,rfl⟩:=aj;obtain⟨m,hm⟩:∃m,l.heap.size=m:=⟨_,rfl⟩;obtain⟨Y,R⟩:∃Y,l.alloc (.cells #[.int .i32 97,.int .i32 768] 21)=Y:=⟨_,rfl⟩;have aB:Bw w Y:=(by rw[<- R];exact I.alloc f6J _);have aJ:Y.heap.size=m+1:=by rw[<- R];exact P8P
 have aF:Ok .i32 21 Y w.heap.size (.slice (some ⟨m,0,none⟩) 2 2) [97,768]:=by
  have:=(ok_two l 97 768 f6J f6J).lower ai;rw[R,hm]at this;exact this
 obtain⟨Z,F⟩:∃Z,Y.alloc (.cells (rcells (lpsC m)).toArray 60)=Z:=⟨_,rfl⟩;have aC:Bw w Z:=(by rw[<- F];exact aB.alloc f6J _);have aN:Z.heap.size=m+2:=(by rw[<- F];exact P8P);have A:=y4H Y (lpsC m);rw[F,aJ]at A;have af:Rown Z w.heap.size (.slice (some ⟨u,0,none⟩) 6 b) (lpsA++lpsB (w.heap.size+1)):=by rw[<- F,<- R];exact(ae.alloc9 _).alloc9 _
 have aH:∀q∈lpsC m,Ok .i32 21 Z w.heap.size q.2 q.1.to:=fun q d=>by
  simp only[lpsC,List.mem_cons,List.mem_nil_iff,or_false]at d;rcases d with rfl | rfl | rfl | rfl
  ·rw[<- F];exact aF.below ((b0r).alloc (l0r _) _)
  ·exact n7g
  ·exact n7g
  ·exact n7g
 have n:=z0t (lpsC m) (fun p s=>by
  simp only[lpsC,List.mem_cons,List.mem_nil_iff,or_false]at s
  rcases s with rfl | rfl | rfl | rfl<;>rfl)
 have y:Hid (Z.ownsRow w.heap.size 60 8 (.slice (some ⟨u,0,none⟩) 6 b) 6 (rcells (lpsA++lpsB (w.heap.size+1)))):=af.1;have r:=O af;have G:=O aH;have C:=O A;have i:=O n;have a:=O aC;have aL:w.heap.size<=m:=f6J;replace F:Y.alloc (.cells #[.int .i64 7,.int .i64 224,.int .i64 224,.int .i64 0,.slice (some ⟨m,0,none⟩) 2 2,.string ⟨#[]⟩,.string ⟨#[]⟩,.float .f64 0,.int .i64 6,.int .i64 768,.int .i64 768,.int .i64 230,.slice none 0 0,.string ⟨#[]⟩,.string ⟨#[]⟩,.float .f64 0,.int .i64 11,.int .i64 768,.int .i64 768,.int .i64 0,.slice none 0 0,.string ⟨#[]⟩,.string ⟨#[]⟩,.float .f64 0,.int .i64 14,.int .i64 224,.int .i64 224,.int .i64 0,.slice none 0 0,.string ⟨#[]⟩,.string ⟨#[]⟩,.float .f64 4591870180066957722] 60)=Z:=F;go_wp2_with(at_builtin;refine wpList_append_own _ rfl (.tmp 13) (.tmp 19) 22 rfl w.heap.size 60 i1 (.agg #[.int .i64 0,.int .i64 0,.int .i64 0,.int .i64 0,.slice none 0 0,.string ⟨#[]⟩,.string ⟨#[]⟩,.float .f64 0]) 8 96 underlying22 hj am M S rfl e8P _ _ _ rfl (V y) ⟨m+1,0,none⟩ 4 4 (rcells (lpsC m)) rfl (by rw[x1b];rfl) (V C) (V i) T7X f6J f6J ?_);intro o t T c _;have z:Rown t w.heap.size o (lpsA++lpsB (w.heap.size+1)++lpsC m):=y1S (V r) (V G) T c;have ag:Bw w t:=(V a).grown c f6J (fun k hk=>((V r).1.lt k hk).1);have HF:Hid (x6v w Cn.x2e (.returned o) t):=⟨o,_,rfl,rfl,z,ag⟩;exact I7o
