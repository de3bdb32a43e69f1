/- Lemmas. -/
import Derived.Test.YtbmckadcjdedcaaGreatDoorK21
import Derived.Test.YtbmckadcjdedcaaGreatDoorK24
import Derived.Test.YtbmckadcjdedcaaGreatDoorK27
import Derived.Test.YtbmckadcjdedcaaGreatDoorK28
import Derived.Test.YtbmckadcjdedcaaGreatDoorK29
import Derived.Test.YtbmckadcjdedcaaGreatDoorK30
import Derived.Test.YtbmckadcjdedcaaGreatDoorK31
import Derived.Test.YtbmckadcjdedcaaGreatDoorK32
import Derived.Test.YtbmckadcjdedcaaGreatDoorK33
import Derived.Test.YtbmckadcjdedcaaGreatDoorK35
set_option maxHeartbeats 8000000
set_option maxRecDepth 100000
namespace Go.Proofs.YtbmckadcjdedcaaGreatDoor
open Go.Proofs.Tryz
open Go.RowKit
open Ti
section
variable{p:Prop}
theorem m1C(h:p:=by simp only[Bool.and_eq_true]at D;have:=x5q D.1.2;omega):p:=h
theorem g2b(h:p:=by have:=of_decide_eq_false h;exact f6J):p:=h
theorem g0V(h:p:=by simp only[Bool.and_eq_true]at D;have:=x5q D.1;omega):p:=h
theorem W4C(h:p:=by go_wp2_with(go_at_call 146;refine(V K).mono ?_;rintro e G ⟨rfl,A,rfl⟩;clear K);go_ret;exact⟨rfl,A,rfl⟩):p:=h
theorem f4w(h:p:=by
 rcases u4.1.2 with⟨e,_⟩ | ⟨_,_,_,e,_⟩
 ·exact⟨_,_,_,e⟩
 ·exact⟨_,_,_,e⟩):p:=h
end
theorem x7K v rs kind w(hg:Glob w)(hv:Rcs w v rs)(hk:I64 kind)(bV:∀r∈Cn.famOf (Cn.fam kind) rs,Cn.right r=0/\r.kind≠15)(hl:(Cn.famOf (Cn.fam kind) rs).length<=4096)(bF:∀m:List Tri.Rg,m.Perm (Cn.rangesA (fun i _=>(i:Int)) 1 (Cn.famOf (Cn.fam kind) rs))->(m.Pairwise fun x y=>Tri.lo x<=Tri.lo y)->Tri.Val 0 m):Calls prog 87 #[v,.int .i64 kind] w (SpkB w (Cn.famOf (Cn.fam kind) rs)):=by
 obtain⟨i0,bR,cx,cz,cB⟩:=info_parts Tryz.info259;obtain⟨i1,bS,ci,cj,cw⟩:=info_parts Tryz.info67;obtain⟨W1,W2,cP,bP,az,aL,bZ,be⟩:=z6L w;have K1:=O (x5u v rs kind W2 (hg.on az) (hv.below az) hk);unfold FamB at K1
 have bp:W2.heap[w.heap.size+1]?=some (.cells #[.int .i64 0,.int .i64 0,.int .i64 0,.int .i64 0,.slice none 0 0,.string ⟨#[]⟩,.string ⟨#[]⟩,.float .f64 0] 67 (0,0)):=by
  rw[<- bP,<- aL];show(W1.heap.push _)[W1.heap.size]?=_;simp
 obtain⟨ao,cap,cg,_,_⟩:=hv.shape;generalize Cn.famOf (Cn.fam kind) rs=fs at *;have Z:=O bV;have D:=O bF;have bJ:=O be;have bI:=O bp;have cN:=O az;have aU:=O bZ;subst cg;go_enter func87,ntmps87;go_wp2_with fail;refine(V K1).mono ?_;rintro e1 w1 ⟨v1,qs,rfl,bA,hR,E⟩;have cT:qs.length=fs.length:=(by rw[<- bA,List.length_map]);have aK:Rcs w1 v1 fs:=(by rw[<- bA];exact hR.rsx.rcs E f6J);have S:=O (V bJ w1 E)
 have aD:w1.heap[w.heap.size+1]?=some (.cells #[.int .i64 0,.int .i64 0,.int .i64 0,.int .i64 0,.slice none 0 0,.string ⟨#[]⟩,.string ⟨#[]⟩,.float .f64 0] 67 (0,0)):=by
  rw[E.block _ (by have:=V aU;exact f6J)];exact V bI
 have ay:Hid (∀k,(Cn.rangesA (fun i _=>(i:Int)) 1 (fs.take k)).length<=4563402752):=fun k=>by
  have h1:=Cn.x3Q (g:=fun i _=>(i:Int)) (fs.take k) 1 (fun r hr=>V Z r (List.mem_of_mem_take hr));exact E3A
 have aj:Hid (∀k,k<fs.length->∃b P cap va,v1=.slice (some ⟨b,P,none⟩) fs.length cap/\RecFit (fs.getD k Cn.none)/\∀W:World,(∀g,g<w1.heap.size->g≠w.heap.size+1->W.heap[g]?=w1.heap[g]?)->(W.cell? ⟨b,P+k*8,none⟩=some (.int .i64 (fs.getD k Cn.none).kind)/\W.cell? ⟨b,P+k*8+1,none⟩=some (.int .i64 (fs.getD k Cn.none).lo)/\W.cell? ⟨b,P+k*8+2,none⟩=some (.int .i64 (fs.getD k Cn.none).hi)/\W.cell? ⟨b,P+k*8+3,none⟩=some (.int .i64 (fs.getD k Cn.none).n)/\W.cell? ⟨b,P+k*8+4,none⟩=some va/\W.cell? ⟨b,P+k*8+5,none⟩=some (.string (fs.getD k Cn.none).name)/\W.cell? ⟨b,P+k*8+6,none⟩=some (.string (fs.getD k Cn.none).other)/\W.cell? ⟨b,P+k*8+7,none⟩=some (.float .f64 (fs.getD k Cn.none).wt))/\Sk .i32 W va (fs.getD k Cn.none).to):=fun k hk=>by
  obtain⟨b,P,cap,he,_,_,hc⟩:=aK.place f6J;have cQ:W2.heap.size<=b:=(hR.1.lt b (by rw[he];rfl)).1;have bQ:b≠w.heap.size+1:=(by have:=V aU;exact f6J);obtain⟨y0,y1,y2,y3,⟨va,y4,ag⟩,y5,y6,y7⟩:=hc k hk;refine⟨b,P,cap,va,he,aK.fit hk,fun W hW=>?_⟩;have e:∀j,W.cell? ⟨b,j,none⟩=w1.cell? ⟨b,j,none⟩:=fun j=>World.cell?_of_block (hW b (x0a y0) bQ);exact⟨⟨by rw[e];exact y0,by rw[e];exact y1,by rw[e];exact y2,by rw[e];exact y3,by rw[e];exact y4,by rw[e];exact y5,by rw[e];exact y6,by rw[e];exact y7⟩,z9C aD hW ag⟩
 have aX:Hid (∀k,k<fs.length->Cn.rangesA (fun i _=>(i:Int)) 1 (fs.take (k+1))=Cn.rangesA (fun i _=>(i:Int)) 1 (fs.take k)++Cn.spoken (fs.getD k Cn.none) ((1+k:Nat):Int)/\fs.take (k+1)=fs.take k++[fs.getD k Cn.none]):=fun k hk=>by
  have e:fs.take (k+1)=fs.take k++[fs.getD k Cn.none]:=by
   rw[List.take_add_one];exact E8R
  rw[e,Cn.x3i,List.length_take,Nat.min_eq_left f6J];exact⟨rfl,rfl⟩
 obtain⟨cO,cD,bG,_,_⟩:=aK.shape;subst bG;go_wp2;go_loopw[5,6,8,15] (fun lv rv _ iv wr=>∃(k:Nat) (ps:List (Rec×Value)),iv=.int .i64 k/\k<=fs.length/\ps.map (·.1)=Cn.none::fs.take k/\ps.length=k+1/\(∃lo cap,lv=.slice lo (k+1) cap/\cap<=9223372036854775807)/\Spst w w1 wr rv lv (Cn.rangesA (fun i _=>(i:Int)) 1 (fs.take k)) ps) (fun _ _ _ iv _=>fs.length-(intOf iv).toNat)
 case atStart=>exact⟨0,[(Cn.none,.slice none 0 0)],rfl,f6J,rfl,rfl,⟨_,_,by first| rfl|(rw[aL];rfl),f6J⟩,by first| exact V S|(rw[aL];exact V S)⟩
 case round =>
  obtain⟨k,ps,rfl,hk,aH,d,⟨ab,R,rfl,cR⟩,hS⟩:=hrel;by_cases aG:k<fs.length
  ·obtain⟨b,P,cC,va,he,l,ba⟩:=V aj k aG;obtain⟨q1,q2,q3⟩:=Value.slice.inj he;subst q1;obtain⟨K,aI⟩:=V Z (fs.getD k Cn.none) (by simp[List.getD,aG]);obtain⟨aY,bN⟩:=V aX k aG;have bH:=V ay k;obtain⟨⟨x0,x1,x2,x3,x4,x5,x6,x7⟩,ag⟩:=ba wr hS.old;obtain⟨t,L,rfl,_,_⟩:=ag.shape;generalize fs.getD k Cn.none=r at *;have ce:Fi (((1+k:Nat):Int)):=⟨f6J,f6J⟩;have bB:=y1k r ((1+k:Nat):Int) K aI;have cd:=Cn.x5k K aI ((1+k:Nat):Int);have bT:(((1+k:Nat):Int))=(k:Int)+1:=f6J;have am:=hS.bel;obtain⟨V1,aB⟩:∃V1,wr.alloc (.cells #[.int .i64 r.kind,.int .i64 r.lo,.int .i64 r.hi,.int .i64 r.n,.slice t r.to.length L,.string r.name,.string r.other,.float .f64 r.wt] 67)=V1:=⟨_,rfl⟩;have bn:Bw wr V1:=by rw[<- aB];exact(b0r).alloc (l0r _) _
   have aq:V1.heap[wr.heap.size]?=some (.cells #[.int .i64 r.kind,.int .i64 r.lo,.int .i64 r.hi,.int .i64 r.n,.slice t r.to.length L,.string r.name,.string r.other,.float .f64 r.wt] 67 (0,0)):=by
    rw[<- aB];exact s6Q
   have cU:V1.heap.size=wr.heap.size+1:=(by rw[<- aB];exact World.size_alloc _ _);have bO:=hS.below bn;have KS:=O (x7m r (.slice t r.to.length L) _ V1 l (ag.below bn) K aI ce);unfold recV at KS;rw[bT]at KS aY bB cd;have KC:Hid (∀W,(∀g,g<w1.heap.size->g≠w.heap.size+1->W.heap[g]?=w1.heap[g]?)->Calls prog 52 #[.slice t r.to.length L] W (x0j W r.to)):=fun W h=>x2W _ r.to W (ba W h).2 l.len;unfold x0j at KC;have aQ:Hid (∀g,(Value.slice ab (k+1) R).ownBlock=some g->g<wr.heap.size):=fun g I=>(hS.rcs.1.lt g I).2;have aT:Hid (∀p∈ps,∀g,p.2.ownBlock=some g->g<wr.heap.size):=fun p hp g I=>((hS.rcs.2 p hp).2.2.lt g I).2;have bK:Hid (∀g,u6.ownBlock=some g->g<wr.heap.size):=fun g I=>(hS.rng.2.2.lt g I).2;obtain⟨z0,z1,z2,z3,z4,z5,z6,z7⟩:=x4K aq;have cS:∀W a m,(store a (.float .f64 r.wt) m).run prog W=stored prog W a (.float .f64 r.wt) m:=fun W a m=>run_store prog W a _ m rfl;have bL:=O bO;have aM:=O aq;have cL:=hS.sz;have cG:=hS.s1;generalize hys:Cn.spoken r ((k:Int)+1)=ys,Cn.rangesA (fun i _=>(i:Int)) 1 (fs.take k)=xs at *;obtain⟨kd,lo,hi,A,f,Y,z,J⟩:=r;simp only at *;go_wp2_with fail;refine(V KS).mono ?_;rintro e3 w3 ⟨v3,rfl,bh,s⟩;obtain⟨g3,aZ,rfl,bC⟩:=y9w bh bB;have aA:=(V bL).below s;have cI:=aA.sz;have cE:=s.size;have HM:=O aA.rng.2.2;have aW:=O bC;have aS:=O (Ti.x5a ys);have aw:Hid (∀v4 w4,w4.ownsRow w1.heap.size 259 3 v4 (xs.length+ys.length) (Ti.rcells xs++Ti.rcells ys)->w3.grownBy w4 u6.ownBlock->Spst w w1 w4 v4 (.slice ab (k+1) R) (xs++ys) ps):=fun v4 w4 h1 h2=>aA.ranges bh.1 f6J h1 h2;have aN:Hid (w3.heap[wr.heap.size]?=some (.cells #[.int .i64 kd,.int .i64 lo,.int .i64 hi,.int .i64 A,.slice t f.length L,.string Y,.string z,.float .f64 J] 67 (0,0))):=(s.block _ f6J).trans (V aM);go_wp2_with(at_builtin;refine wpList_append_own _ rfl (.tmp 19) (.tmp 23) 203 rfl w1.heap.size 259 i0 (.agg #[.int .i64 0,.int .i64 0,.int .i64 0]) 3 24 underlying203 bR cx cz cB rfl e8P _ _ _ rfl (V HM) ⟨g3,0,none⟩ ys.length aZ (Ti.rcells ys) rfl (by rw[Ti.x1Q]) (V aW) (V aS) T7X f6J f6J ?_);intro v4 w4 bX aF _;have bj:=V aw v4 w4 bX aF
   have C:w4.heap[wr.heap.size]?=some (.cells #[.int .i64 kd,.int .i64 lo,.int .i64 hi,.int .i64 A,.slice t f.length L,.string Y,.string z,.float .f64 J] 67 (0,0)):=by
    rw[aF.block _ f6J (fun e=>by have:=V bK _ e.symm;exact f6J)];exact V aN
   have cJ:=aF.size;have z4:=(x4K C).2.2.2.2.1;have K5:=O (V KC w4 bj.old);have aV:=O bj;have ai:=O C;go_wp2_with fail;refine(V K5).mono ?_;rintro e5 w5 ⟨v5,rfl,X,q⟩;obtain⟨t5,c5,cf,_,_⟩:=X.sk.shape;subst cf;have cK:=q.size;have af:=(V aV).below q;have F:w5.heap[wr.heap.size]?=some (.cells #[.int .i64 kd,.int .i64 lo,.int .i64 hi,.int .i64 A,.slice t f.length L,.string Y,.string z,.float .f64 J] 67 (0,0)):=(q.block _ f6J).trans (V ai);have y4:=(x4K F).2.2.2.2.1;have f4:=x0e (j:=4) F;obtain⟨T,N⟩:∃T,w5.setCell ⟨wr.heap.size,4,none⟩ (.slice t5 f.length c5)=T:=⟨_,rfl⟩
   have ar:T.heap[wr.heap.size]?=some (.cells #[.int .i64 kd,.int .i64 lo,.int .i64 hi,.int .i64 A,.slice t5 f.length c5,.string Y,.string z,.float .f64 J] 67 (0,0)):=by
    rw[<- N,x0f F];rfl
   have bD:T.heap.size=w5.heap.size:=by rw[<- N];exact x1b _ _ _ _
   have Q:Spst w w1 T v4 (.slice ab (k+1) R) (xs++ys) ps:=by
    refine af.keep (B:=wr.heap.size) f6J (by rw[<- N];exact x0d af.bel am.size _) f6J (fun g _ bU=>by rw[<- N];exact x0g _ bU) (z0t af.rng.2.2 F e8P) (fun e=>by have:=V aQ _ e;exact f6J) (fun p hp e=>by have:=V aT p hp _ e;exact f6J)
   have bE:Ok .i32 21 T w.heap.size (.slice t5 f.length c5) f:=by
    refine(X.lower (by have:=am.size;exact f6J)).keep fun g I=>?_;rw[<- N];exact x0g _ (fun e=>by have:=(X.2.2.lt g I).1;exact f6J)
   obtain⟨s0,s1,s2,s3,s4,s5,s6,s7⟩:=x4K ar;have aR:Hid (∀o,(T.alloc o).ownsRow w.heap.size 67 8 (.slice ab (k+1) R) (k+1) (rcells ps)):=fun o=>(by have:=Q.rcs.1.alloc o;rw[d]at this;exact this);have c:Hid (∀j u,(x0y (⟨kd,lo,hi,A,f,Y,z,J⟩,.slice t5 f.length c5))[j]?=some u->(T.alloc (.cells #[.int .i64 kd,.int .i64 lo,.int .i64 hi,.int .i64 A,.slice t5 f.length c5,.string Y,.string z,.float .f64 J] 67)).cell? ((⟨T.heap.size,0,none⟩:Addr).add j)=some u):=x6d T T.heap.size rfl ⟨kd,lo,hi,A,f,Y,z,J⟩ _;have ae:=O (x6W ⟨kd,lo,hi,A,f,Y,z,J⟩ (vt:=.slice t5 f.length c5) rfl)
   have G:Hid (∀o gg M w8,w8.ownsRow w.heap.size 67 8 (.slice (some ⟨gg,0,none⟩) (k+1+1) M) (k+1+1) (rcells ps++x0y (⟨kd,lo,hi,A,f,Y,z,J⟩,.slice t5 f.length c5))->(T.alloc o).grownBy w8 (Value.slice ab (k+1) R).ownBlock->((Value.slice ab (k+1) R).ownBlock=some gg\/gg=T.heap.size+1)->Spst w w1 w8 v4 (.slice (some ⟨gg,0,none⟩) (k+1+1) M) (xs++ys) (ps++[(⟨kd,lo,hi,A,f,Y,z,J⟩,.slice t5 f.length c5)])):=fun o gg M w8 h1 h2 h3=>by
    have h:=Q.more (r:=⟨kd,lo,hi,A,f,Y,z,J⟩) bE (gg:=gg) (cap:=M) (by rw[d];exact h1) h2 h3;rw[d]at h;exact h
   have cH:=Q.bel.size;clear K5 X q af F ar Q bE aV ai aQ aT bD;go_wp2_with(at_builtin;refine wpList_append_lies _ rfl (.tmp 29) (.tmp 31) 23 rfl w.heap.size 67 i1 (.agg #[.int .i64 0,.int .i64 0,.int .i64 0,.int .i64 0,.slice none 0 0,.string ⟨#[]⟩,.string ⟨#[]⟩,.float .f64 0]) 8 96 underlying23 bS ci cj cw rfl e8P _ _ _ rfl (V aR _) ⟨T.heap.size,0,none⟩ 1 1 (x0y (⟨kd,lo,hi,A,f,Y,z,J⟩,.slice t5 f.length c5)) rfl rfl (V c) (V ae) f6J T7X f6J P8P (T.heap.size+1) (by simp) ?_);intro gg M w8 aJ bu H cF;have bm:=V G _ gg M w8 aJ bu H
   have aC:M<=9223372036854775807:=by
    rcases aJ.2 with⟨h0,_⟩ | ⟨_,_,_,h0,_,_,_,h1,_⟩
    ·cases h0
    ·obtain⟨_,_,e3⟩:=Value.slice.inj h0;rw[e3];unfold maxLen at h1;omega
   have bM:=O bm;clear aR c ae G aJ bu H bm s0 s1 s2 s3 s4 s5 s6 s7 y4 f4 z4;go_wp2
   go_roundw
   case rel=>exact⟨k+1,ps++[(⟨kd,lo,hi,A,f,Y,z,J⟩,.slice t5 f.length c5)],g2D,f6J,by rw[List.map_append,aH,bN];rfl,by rw[List.length_append,d];rfl,⟨_,_,rfl,aC⟩,by rw[aY];exact V bM⟩
   case measure=>exact g7W
  ·obtain rfl:k=fs.length:=f6J;rw[List.take_of_length_le (l0r _)]at hS aH;have bH:=V ay fs.length;rw[List.take_of_length_le (l0r _)]at bH;have KB:=O (y4B _ wr u6 _ hS.rng f6J (V D));unfold y6A at KB;have HS:=O hS;obtain⟨ro,cM,bY,_,_⟩:=hS.rng.sr.shape;subst bY;clear hS aj aX Z ay D;go_wp2_with fail;refine(V KB).mono ?_;rintro e9 w9 ⟨a,m,rfl,p1,p2,hT,bw⟩;obtain⟨F1,F2,F3,F4,F5⟩:=(V HS).fin bw hT;have y0:=cell_of (j:=0) F1 (by show 0<2;exact f6J);have y1:=cell_of (j:=1) F1 w2h;have f0:=fun j=>x0e (j:=j) F1;have aO:=O F2;have HF:SpkB w fs (.returned (.agg #[.pointer (some a),.slice ab (fs.length+1) R])) _:=⟨a,m,_,ps,rfl,p1,p2,F3,F4,aH,F5⟩;have aP:=O HF;clear KB hT bw F1 F2 F3 F4 F5 HF HS p1 p2;go_wp2;have U:=V aO;have bt:=V aP;clear aO aP y0 y1 f0;generalize(w9.setCell ⟨w.heap.size,0,none⟩ (.pointer (some a))).setCell ⟨w.heap.size,1,none⟩ (.slice ab (fs.length+1) R)=cV at *;have z0:=cell_of (j:=0) U (by show 0<2;exact f6J);have z1:=cell_of (j:=1) U w2h;refine bodyPost_ret (v:=.agg #[.pointer (some a),.slice ab (fs.length+1) R]) (by simp[results,Tryz.results87,go_sem,z0,z1]) rfl bt
open Ti
def TrP(W:World)(B:Nat)(v:Value)(xs:List Tri.Rg):Prop:=∃a m,v=.pointer (some a)/\m.Perm xs/\(m.Pairwise fun x y=>Tri.lo x<=Tri.lo y)/\T4 W B v m 0
def SpP(W:World)(B:Nat)(v vl:Value)(fs:List Rec):Prop:=TrP W B v (Cn.rangesA (fun i _=>(i:Int)) 1 fs)/\∃ps,Rown W B vl ps/\ps.map (·.1)=Cn.none::fs
def CoP(W:World)(B:Nat)(c1 c2:Value)(rs:List Rec):Prop:=∃r1 r2,c1=.map (some r1)/\c2=.map (some r2)/\B<=r1/\B<=r2/\GAt KP W r1 (x3y rs)/\GAt KR W r2 (secC rs)
def MiP(W:World)(B:Nat)(x:Value):Prop:=∃r,x=.map (some r)/\B<=r/\MxAt W r
theorem x6C{W:World}{g o}(h:W.heap[g]?=some o):g<W.heap.size:=by grind
section
variable {W W':World} {B B':Nat} {v vl c1 c2 x:Value} {xs:List Tri.Rg} {fs rs:List Rec}
theorem TrP.below(h:TrP W B v xs)(Q:Bw W W'):TrP W' B v xs:=by
 obtain⟨a,m,e,p,s,t⟩:=h;exact⟨a,m,e,p,s,t.below Q⟩
theorem TrP.lower(h:TrP W B v xs)(Q:B'<=B):TrP W B' v xs:=by
 obtain⟨a,m,e,p,s,t⟩:=h;exact⟨a,m,e,p,s,T4.lower t Q⟩
theorem y9Z{w:World}{B B' e A n:Nat}{v us}(h:w.ownsRow B e A v n us)(Q:B'<=B):w.ownsRow B' e A v n us:=by
 refine⟨h.1,?_⟩;rcases h.2 with z | ⟨g,cap,t,N,C,r⟩
 ·exact .inl z
 ·exact .inr ⟨g,cap,t,N,f6J,r⟩
theorem SpP.below(h:SpP W B v vl fs)(Q:Bw W W'):SpP W' B v vl fs:=by
 obtain⟨t,ps,u,e⟩:=h;exact⟨t.below Q,ps,⟨x0v u.1 fun g C=>Q.block g (u.1.lt g C).2,fun p L=>(u.2 p L).below Q⟩,e⟩
theorem SpP.lower(h:SpP W B v vl fs)(Q:B'<=B):SpP W B' v vl fs:=by
 obtain⟨t,ps,u,e⟩:=h;exact⟨t.lower Q,ps,⟨y9Z u.1 Q,fun p L=>(u.2 p L).lower Q⟩,e⟩
theorem GAt.below{K:Value->Prop}{r}{c:Value->Option Value}(h:GAt K W r c)(Q:Bw W W'):GAt K W' r c:=by
 obtain⟨Y,q,Z,D⟩:=h;exact⟨Y,q,by rw[Q.block r (x6C Z)];exact Z,D⟩
theorem CoP.below(h:CoP W B c1 c2 rs)(Q:Bw W W'):CoP W' B c1 c2 rs:=by
 obtain⟨l,r2,P,f,b1,m,M,T⟩:=h;exact⟨l,r2,P,f,b1,m,M.below Q,T.below Q⟩
theorem CoP.lower(h:CoP W B c1 c2 rs)(Q:B'<=B):CoP W B' c1 c2 rs:=by
 obtain⟨l,r2,P,f,b1,m,M,T⟩:=h;exact⟨l,r2,P,f,f6J,f6J,M,T⟩
theorem MiP.below(h:MiP W B x)(Q:Bw W W'):MiP W' B x:=by
 obtain⟨r,e,b,c,g⟩:=h;exact⟨r,e,b,c,g.below Q⟩
theorem MiP.lower(h:MiP W B x)(Q:B'<=B):MiP W B' x:=by
 obtain⟨r,e,b,c⟩:=h;exact⟨r,e,f6J,c⟩
end
structure DataV(W:World)(B:Nat)(rs:List Rec)(t1 t2 t3 t4 t5 a1 l1 a2 l2 a3 l3 a4 l4 a5 l5 c1 c2 x1:Value):Prop where
 p1:TrP W B t1 (Cn.rangesA (fun _ r=>Cn.value r) 1 (Cn.famOf 1 rs))
 p2:TrP W B t2 (Cn.rangesA (fun _ r=>Cn.value r) 1 (Cn.famOf 2 rs))
 p3:TrP W B t3 (Cn.rangesA (fun _ r=>Cn.value r) 1 (Cn.famOf 4 rs))
 p4:TrP W B t4 (Cn.rangesA (fun _ r=>Cn.value r) 1 (Cn.famOf 5 rs))
 p5:TrP W B t5 (Cn.rangesA (fun _ r=>Cn.value r) 1 (Cn.famOf 6 rs))
 q1:SpP W B a1 l1 (Cn.famOf 1 rs)
 q2:SpP W B a2 l2 (Cn.famOf 3 rs)
 q3:SpP W B a3 l3 (Cn.famOf 7 rs)
 q4:SpP W B a4 l4 (Cn.famOf 8 rs)
 q5:SpP W B a5 l5 (Cn.famOf 9 rs)
 co:CoP W B c1 c2 rs
 mi:MiP W B x1
theorem DataV.below{W W' B rs t1 t2 t3 t4 t5 a1 l1 a2 l2 a3 l3 a4 l4 a5 l5 c1 c2 x1}(h:DataV W B rs t1 t2 t3 t4 t5 a1 l1 a2 l2 a3 l3 a4 l4 a5 l5 c1 c2 x1)(Q:Bw W W'):DataV W' B rs t1 t2 t3 t4 t5 a1 l1 a2 l2 a3 l3 a4 l4 a5 l5 c1 c2 x1:=⟨h.p1.below Q,h.p2.below Q,h.p3.below Q,h.p4.below Q,h.p5.below Q,h.q1.below Q,h.q2.below Q,h.q3.below Q,h.q4.below Q,h.q5.below Q,h.co.below Q,h.mi.below Q⟩
def x0n(W:World)(B p:Nat)(rs:List Rec):Prop:=∃t1 t2 t3 t4 t5 a1 l1 a2 l2 a3 l3 a4 l4 a5 l5 c1 c2 x1:Value,W.heap[p]?=some (.cells #[t1,t2,t3,t4,t5,a1,l1,a2,l2,a3,l3,a4,l4,a5,l5,c1,c2,x1] 156 (0,0))/\B<=p/\DataV W B rs t1 t2 t3 t4 t5 a1 l1 a2 l2 a3 l3 a4 l4 a5 l5 c1 c2 x1
theorem x0n.below{W W' B p rs}(h:x0n W B p rs)(Q:Bw W W'):x0n W' B p rs:=by
 obtain⟨H,J,S,n,Y,I,i,P,s,d,l,z,y,N,o,c1,c2,u,Z,D,R⟩:=h;exact⟨H,J,S,n,Y,I,i,P,s,d,l,z,y,N,o,c1,c2,u,by rw[Q.block p (x6C Z)];exact Z,D,R.below Q⟩
def CmdB(w:World)(rs:List Rec)(e:Ending)(w':World):Prop:=∃p,e=.returned (.pointer (some ⟨p,0,none⟩))/\x0n w' w.heap.size p rs/\Below w.heap.size w w'
theorem x9Z v rs w(hg:Glob w)(N:Rcs w v rs)(hc:(Cn.check6 rs).2=0)(a:∀r∈rs,r.kind≠15->0<=Cn.value r/\Cn.value r<=65535)(h7:∀r∈rs,r.kind=7->r.to.length=2/\0<=r.lo/\r.lo<=1114111)(aR:∀r∈rs,r.kind=15->Sh r.name/\Sh r.other):Calls prog 46 #[v] w (CmdB w rs):=by
 obtain⟨hl,S,_⟩:=Cn.x0m.1 hc;have b:∀f:Int,f≠10->∀r∈Cn.famOf f rs,r.kind≠15:=fun f hf r u e=>hf (by rw[<- (Cn.x0r.1 u).2,e];exact e8N);have az:∀f,(Cn.famOf f rs).length<=4096:=fun f=>Nat.le_trans (List.length_filter_le _ _) hl
 have T:∀(M f:Int),Cn.fam M=f->f≠10->f≠0->I64 M->Hid (∀W,Bw w W->Calls prog 86 #[v,.int .i64 M] W (x6k W (Cn.rangesA (fun _ r=>Cn.value r) 1 (Cn.famOf f rs)))):=fun M f e1 e2 e3 e4 W U=>by
  subst e1;refine y1r v rs M W (hg.on U) (N.below U) e4 (fun r u=>?_) (az _) (fun m hp hs=>(Cn.y2V (Cn.y1Z hc ⟨e2,e3⟩) (fun k hk=>?_) hp hs).1)
  ·have:=a r (Cn.x0r.1 u).1 (b _ e2 r u);exact⟨S r (Cn.x0r.1 u).1,b _ e2 r u,f6J,f6J⟩
  ·exact a _ (Cn.x0r.1 (List.getElem_mem hk)).1 (b _ e2 _ (List.getElem_mem hk))
 have j:∀(M f:Int),Cn.fam M=f->f≠10->f≠0->I64 M->Hid (∀W,Bw w W->Calls prog 87 #[v,.int .i64 M] W (SpkB W (Cn.famOf f rs))):=fun M f e1 e2 e3 e4 W U=>by
  subst e1;refine x7K v rs M W (hg.on U) (N.below U) e4 (fun r u=>⟨S r (Cn.x0r.1 u).1,b _ e2 r u⟩) (az _) (fun m hp hs=>(Cn.x8l hc ⟨e2,e3⟩ hp hs).1)
 have KC:Hid (∀W,Bw w W->Calls prog 88 #[v] W (CmpB W rs)):=fun W U=>x4d v rs W (N.below U) h7 hl;have KM:Hid (∀W,Bw w W->Calls prog 89 #[v] W (MxtB W)):=fun W U=>x7H v rs W (N.below U) aR;have V1:=T 1 1 e8N e8N e8N ⟨f6J,f6J⟩;have V2:=T 6 2 e8N e8N e8N ⟨f6J,f6J⟩;have V3:=T 9 4 e8N e8N e8N ⟨f6J,f6J⟩;have V4:=T 10 5 e8N e8N e8N ⟨f6J,f6J⟩;have V5:=T 11 6 e8N e8N e8N ⟨f6J,f6J⟩;have P1:=j 3 1 e8N e8N e8N ⟨f6J,f6J⟩;have P2:=j 7 3 e8N e8N e8N ⟨f6J,f6J⟩;have P3:=j 12 7 e8N e8N e8N ⟨f6J,f6J⟩;have P4:=j 13 8 e8N e8N e8N ⟨f6J,f6J⟩;have P5:=j 14 9 e8N e8N e8N ⟨f6J,f6J⟩;obtain⟨ao,cap,aT,_,_⟩:=N.shape;subst aT;have ai:=O (Below.refl w.heap.size w);go_enter func46,ntmps46;go_wp2_with fail;refine(V V1 _ (V ai)).mono ?_;rintro e1 w1 ⟨b1,m1,rfl,u1,u2,u3,aS⟩;have Q:=O (x0b (V ai) aS);have ab:Hid (TrP w1 w.heap.size (.pointer (some b1)) (Cn.rangesA (fun _ r=>Cn.value r) 1 (Cn.famOf 1 rs))):=TrP.lower ⟨_,_,rfl,u1,u2,u3⟩ (V ai).size;go_wp2_with fail;refine(V V2 _ (V Q)).mono ?_;rintro e2 w2 ⟨b2,m2,rfl,u1,u2,u3,ay⟩;have i:=O (x0b (V Q) ay);have L:Hid (TrP w2 w.heap.size (.pointer (some b2)) (Cn.rangesA (fun _ r=>Cn.value r) 1 (Cn.famOf 2 rs))):=TrP.lower ⟨_,_,rfl,u1,u2,u3⟩ (V Q).size;replace ab:=O ((V ab).below ay);go_wp2_with fail;refine(V V3 _ (V i)).mono ?_;rintro e3 w3 ⟨b3,m3,rfl,u1,u2,u3,s⟩;have X:=O (x0b (V i) s);have C:Hid (TrP w3 w.heap.size (.pointer (some b3)) (Cn.rangesA (fun _ r=>Cn.value r) 1 (Cn.famOf 4 rs))):=TrP.lower ⟨_,_,rfl,u1,u2,u3⟩ (V i).size;replace ab:=O ((V ab).below s);replace L:=O ((V L).below s);go_wp2_with fail;refine(V V4 _ (V X)).mono ?_;rintro e4 w4 ⟨b4,m4,rfl,u1,u2,u3,R⟩;have J:=O (x0b (V X) R);have H:Hid (TrP w4 w.heap.size (.pointer (some b4)) (Cn.rangesA (fun _ r=>Cn.value r) 1 (Cn.famOf 5 rs))):=TrP.lower ⟨_,_,rfl,u1,u2,u3⟩ (V X).size;replace ab:=O ((V ab).below R);replace L:=O ((V L).below R);replace C:=O ((V C).below R);go_wp2_with fail;refine(V V5 _ (V J)).mono ?_;rintro e5 w5 ⟨b5,m5,rfl,u1,u2,u3,q⟩;have aj:=O (x0b (V J) q);have I:Hid (TrP w5 w.heap.size (.pointer (some b5)) (Cn.rangesA (fun _ r=>Cn.value r) 1 (Cn.famOf 6 rs))):=TrP.lower ⟨_,_,rfl,u1,u2,u3⟩ (V J).size;replace ab:=O ((V ab).below q);replace L:=O ((V L).below q);replace C:=O ((V C).below q);replace H:=O ((V H).below q);go_wp2_with fail;refine(V P1 _ (V aj)).mono ?_;rintro e6 w6 ⟨g1,n1,y1,bm,rfl,u1,u2,u3,u4,u5,A⟩;have am:=O (x0b (V aj) A);have P:Hid (SpP w6 w.heap.size (.pointer (some g1)) y1 (Cn.famOf 1 rs)):=SpP.lower ⟨⟨_,_,rfl,u1,u2,u3⟩,_,u4,u5⟩ (V aj).size
 obtain⟨aL,aG,aA,aU⟩:∃o l c,y1=.slice o l c:=f4w
 subst aU;replace ab:=O ((V ab).below A);replace L:=O ((V L).below A);replace C:=O ((V C).below A);replace H:=O ((V H).below A);replace I:=O ((V I).below A);go_wp2_with fail;refine(V P2 _ (V am)).mono ?_;rintro e7 w7 ⟨g2,n2,y2,bn,rfl,u1,u2,u3,u4,u5,g⟩;have aq:=O (x0b (V am) g);have y:Hid (SpP w7 w.heap.size (.pointer (some g2)) y2 (Cn.famOf 3 rs)):=SpP.lower ⟨⟨_,_,rfl,u1,u2,u3⟩,_,u4,u5⟩ (V am).size
 obtain⟨aM,aH,aB,aV⟩:∃o l c,y2=.slice o l c:=f4w
 subst aV;replace ab:=O ((V ab).below g);replace L:=O ((V L).below g);replace C:=O ((V C).below g);replace H:=O ((V H).below g);replace I:=O ((V I).below g);replace P:=O ((V P).below g);go_wp2_with fail;refine(V P3 _ (V aq)).mono ?_;rintro e8 w8 ⟨g3,n3,y3,bp,rfl,u1,u2,u3,u4,u5,Z⟩;have ar:=O (x0b (V aq) Z);have n:Hid (SpP w8 w.heap.size (.pointer (some g3)) y3 (Cn.famOf 7 rs)):=SpP.lower ⟨⟨_,_,rfl,u1,u2,u3⟩,_,u4,u5⟩ (V aq).size
 obtain⟨aN,aI,aC,aW⟩:∃o l c,y3=.slice o l c:=f4w
 subst aW;replace ab:=O ((V ab).below Z);replace L:=O ((V L).below Z);replace C:=O ((V C).below Z);replace H:=O ((V H).below Z);replace I:=O ((V I).below Z);replace P:=O ((V P).below Z);replace y:=O ((V y).below Z);go_wp2_with fail;refine(V P4 _ (V ar)).mono ?_;rintro e9 w9 ⟨g4,n4,y4,bt,rfl,u1,u2,u3,u4,u5,d⟩;have z:=O (x0b (V ar) d);have ae:Hid (SpP w9 w.heap.size (.pointer (some g4)) y4 (Cn.famOf 8 rs)):=SpP.lower ⟨⟨_,_,rfl,u1,u2,u3⟩,_,u4,u5⟩ (V ar).size
 obtain⟨aO,aJ,aD,aX⟩:∃o l c,y4=.slice o l c:=f4w
 subst aX;replace ab:=O ((V ab).below d);replace L:=O ((V L).below d);replace C:=O ((V C).below d);replace H:=O ((V H).below d);replace I:=O ((V I).below d);replace P:=O ((V P).below d);replace y:=O ((V y).below d);replace n:=O ((V n).below d);go_wp2_with fail;refine(V P5 _ (V z)).mono ?_;rintro be aZ ⟨g5,n5,y5,bu,rfl,u1,u2,u3,u4,u5,E⟩;have af:=O (x0b (V z) E);have D:Hid (SpP aZ w.heap.size (.pointer (some g5)) y5 (Cn.famOf 9 rs)):=SpP.lower ⟨⟨_,_,rfl,u1,u2,u3⟩,_,u4,u5⟩ (V z).size
 obtain⟨aP,aK,aF,aY⟩:∃o l c,y5=.slice o l c:=f4w
 subst aY;replace ab:=O ((V ab).below E);replace L:=O ((V L).below E);replace C:=O ((V C).below E);replace H:=O ((V H).below E);replace I:=O ((V I).below E);replace P:=O ((V P).below E);replace y:=O ((V y).below E);replace n:=O ((V n).below E);replace ae:=O ((V ae).below E);go_wp2_with fail;refine(V KC _ (V af)).mono ?_;rintro bh ba ⟨r1,r2,rfl,u1,u2,u3,u4,K⟩;have ag:=O (x0b (V af) K);have aw:Hid (CoP ba w.heap.size (.map (some r1)) (.map (some r2)) rs):=CoP.lower ⟨_,_,rfl,rfl,u1,u2,u3,u4⟩ (V af).size;replace ab:=O ((V ab).below K);replace L:=O ((V L).below K);replace C:=O ((V C).below K);replace H:=O ((V H).below K);replace I:=O ((V I).below K);replace P:=O ((V P).below K);replace y:=O ((V y).below K);replace n:=O ((V n).below K);replace ae:=O ((V ae).below K);replace D:=O ((V D).below K);go_wp2_with fail;refine(V KM _ (V ag)).mono ?_;rintro bj t ⟨r3,rfl,u1,u2,G⟩;have F:=O (x0b (V ag) G);have aQ:Hid (MiP t w.heap.size (.map (some r3))):=MiP.lower ⟨_,rfl,u1,u2⟩ (V ag).size;replace ab:=O ((V ab).below G);replace L:=O ((V L).below G);replace C:=O ((V C).below G);replace H:=O ((V H).below G);replace I:=O ((V I).below G);replace P:=O ((V P).below G);replace y:=O ((V y).below G);replace n:=O ((V n).below G);replace ae:=O ((V ae).below G);replace D:=O ((V D).below G);replace aw:=O ((V aw).below G)
 have HF:Hid (CmdB w rs (.returned (.pointer (some ⟨t.heap.size,0,none⟩))) (t.alloc (.cells #[.pointer (some b1),.pointer (some b2),.pointer (some b3),.pointer (some b4),.pointer (some b5),.pointer (some g1),.slice aL aG aA,.pointer (some g2),.slice aM aH aB,.pointer (some g3),.slice aN aI aC,.pointer (some g4),.slice aO aJ aD,.pointer (some g5),.slice aP aK aF,.map (some r1),.map (some r2),.map (some r3)] 156))):=by
  have Y:Bw t (t.alloc (.cells #[.pointer (some b1),.pointer (some b2),.pointer (some b3),.pointer (some b4),.pointer (some b5),.pointer (some g1),.slice aL aG aA,.pointer (some g2),.slice aM aH aB,.pointer (some g3),.slice aN aI aC,.pointer (some g4),.slice aO aJ aD,.pointer (some g5),.slice aP aK aF,.map (some r1),.map (some r2),.map (some r3)] 156)):=(b0r).alloc (l0r _) _;refine⟨_,rfl,⟨_,_,_,_,_,_,_,_,_,_,_,_,_,_,_,_,_,_,?_,(V F).size,(V ab).below Y,(V L).below Y,(V C).below Y,(V H).below Y,(V I).below Y,(V P).below Y,(V y).below Y,(V n).below Y,(V ae).below Y,(V D).below Y,(V aw).below Y,(V aQ).below Y⟩,x0b (V F) Y⟩;show(t.heap.push _)[t.heap.size]?=_;simp
 exact I7o
def CpB(w:World)(rs:List Rec)(e:Ending)(w':World):Prop:=Below w.heap.size w w'/\((¬(Cn.check rs).2=0/\e=.returned (.tuple #[.pointer none,.int .i64 ((Cn.check rs).1:Int),.int .i64 (Cn.check rs).2]))\/((Cn.check rs).2=0/\∃p,e=.returned (.tuple #[.pointer (some ⟨p,0,none⟩),.int .i64 0,.int .i64 0])/\x0n w' w.heap.size p rs))
theorem x9Y v rs w(c:Rcs w v rs)(C:Calls prog 45 #[v] w (x3X w (Cn.check rs)))(M:(Cn.check rs).2=0->∀W,Bw w W->Calls prog 46 #[v] W (CmdB W rs)):Calls prog 24 #[v] w (CpB w rs):=by
 have o:=O C;unfold x3X at o;have M:=O M;obtain⟨ao,cap,z,_,_⟩:=c.shape;unfold CpB;by_cases h:(Cn.check rs).2=0
 ·have K:=O (V M h);have b:=O h;generalize hck:Cn.check rs=q at *;obtain⟨L,g⟩:=q;simp only at h;subst h;subst z;go_enter func24,ntmps24;go_wp2_with fail;refine c0m o fun w1 E=>?_;have T:=O (V K w1 E);have Q:=O E;go_wp2_with fail;refine(V T).mono ?_;rintro f t ⟨p,rfl,a,F⟩;have i:=O (x0b (V Q) F)
  have A:Hid (x0n t w.heap.size p rs):=by
   obtain⟨H,J,S,n,Y,I,j,P,s,d,l,U,y,N,r,c1,c2,u,Z,D,R⟩:=a;have X:=(V Q).size;exact⟨H,J,S,n,Y,I,j,P,s,d,l,U,y,N,r,c1,c2,u,Z,f6J,R.p1.lower X,R.p2.lower X,R.p3.lower X,R.p4.lower X,R.p5.lower X,R.q1.lower X,R.q2.lower X,R.q3.lower X,R.q4.lower X,R.q5.lower X,R.co.lower X,R.mi.lower X⟩
  go_wp2;go_ret3;exact⟨V i,.inr ⟨V b,p,rfl,V A⟩⟩
 ·have b:=O h;generalize hck:Cn.check rs=q at *;obtain⟨L,g⟩:=q;simp only at h;have m:(g != 0)=true:=bne_iff_ne.2 h;subst z;go_enter func24,ntmps24;go_wp2_with fail;refine c0m o fun w1 E=>?_;have Q:=O E;go_wp2;go_ret3;exact⟨V Q,.inl ⟨V b,rfl⟩⟩
open Ti
namespace Cn
theorem x5q{r a b c d}(h:bare r false a b c d=true):r.n=0:=by
 unfold bare at h;simp only[Bool.and_eq_true,Bool.false_or,decide_eq_true_eq]at h;exact h.1.1.1.1
theorem y0Z{r}(h:right r=0)(G:r.kind≠15)(Z:r.kind≠4):0<=r.n/\r.n<=254:=by
 have U:=x0w h
 have X:1<=r.kind/\r.kind<=15:=by
  unfold fam at U;split at U
  ·exact absurd rfl U
  ·omega
 unfold right at h;rw[if_neg U,if_neg G]at h;have T:=x1z h;rw[Bool.and_eq_true]at T;have D:=T.2;by_cases L:r.kind=1\/r.kind=2\/r.kind=11
 ·rw[if_pos L]at D;have:=x5q D;omega
 rw[if_neg L]at D;by_cases J:r.kind=3
 ·rw[if_pos J]at D;exact g0V
 rw[if_neg J,if_neg Z]at D;by_cases K:r.kind=5
 ·rw[if_pos K]at D;exact m1C
 rw[if_neg K]at D;by_cases H:r.kind=13
 ·rw[if_pos H]at D;exact m1C
 rw[if_neg H]at D;by_cases b:r.kind=6
 ·grind
 rw[if_neg b]at D;by_cases C:r.kind=7
 ·rw[if_pos C]at D;exact m1C
 rw[if_neg C]at D;by_cases A:r.kind=8
 ·rw[if_pos A]at D;exact m1C
 rw[if_neg A]at D;by_cases I:r.kind=9
 ·grind
 rw[if_neg I]at D;by_cases F:r.kind=10
 ·grind
 rw[if_neg F]at D;by_cases E:r.kind=12
 ·rw[if_pos E]at D;exact g0V
 rw[if_neg E]at D;exact g0V
theorem x7a{r}(h:right r=0)(G:r.kind≠15):0<=value r/\value r<=65535:=by
 unfold value;split
 ·omega
 ·split
  ·omega
  ·split
   ·omega
   ·rename_i h34
    split
    ·omega
    ·split
     ·omega
     ·have:=y0Z h G (fun e=>h34 (.inr e));omega
theorem x8f{b}(h:nameL b=true):b.size=4:=by
 unfold nameL at h;split at h
 ·rename_i a b c d he
  have:=congrArg List.length he;exact W2K
 ·cases h
theorem y9W{r}(h:right r=0)(R:r.kind=15):r.name.size=4/\r.other.size=4:=by
 have U:=x0w h;unfold right at h;rw[if_neg U,if_pos R]at h;obtain⟨_,_,_,Z,D,_⟩:=x1z h;exact⟨x8f Z,x8f D⟩
theorem x3k{c}(h:scalar c=true):0<=c/\c<=1114111:=by
 unfold scalar at h;have:=o0d h;omega
end Cn
theorem y1M v rs w(C:Glob w)(N:Rcs w v rs):Calls prog 24 #[v] w (CpB w rs):=by
 refine x9Y v rs w N (z7B v rs w C N) fun A W U=>?_;have q:=(Cn.x0L.1 A).1;obtain⟨_,S,_⟩:=Cn.x0m.1 q;refine x9Z v rs W (C.on U) (N.below U) q (fun r u G=>Cn.x7a (S r u) G) (fun r u F=>?_) (fun r u R=>?_)
 ·obtain⟨_,D,E⟩:=Cn.x0A (S r u) F;have z:=(Cn.x0t E).1;have H:=Cn.x3k D;exact⟨f6J,H.1,H.2⟩
 ·obtain⟨Z,D⟩:=Cn.y9W (S r u) R;exact⟨by unfold Sh;exact f6J,by unfold Sh;exact f6J⟩
section
variable {W W':World} {B p:Nat} {v vl c1 c2 x:Value} {xs:List Tri.Rg} {fs rs:List Rec}
theorem TrP.keep(h:TrP W B v xs)(X:W.heap.size<=W'.heap.size)(G:∀k,B<=k->k<W.heap.size->W'.heap[k]?=W.heap[k]?):TrP W' B v xs:=by
 obtain⟨a,m,e,p,s,t⟩:=h;exact⟨a,m,e,p,s,T4.keep t X G⟩
theorem SpP.keep(h:SpP W B v vl fs)(X:W.heap.size<=W'.heap.size)(G:∀k,B<=k->k<W.heap.size->W'.heap[k]?=W.heap[k]?):SpP W' B v vl fs:=by
 obtain⟨t,ps,u,e⟩:=h;exact⟨t.keep X G,ps,⟨x6f u.1 G,fun p L=>⟨(u.2 p L).1,(u.2 p L).2.1,x6f (u.2 p L).2.2 G⟩⟩,e⟩
theorem GAt.keep{K:Value->Prop}{r}{c:Value->Option Value}(h:GAt K W r c)(hr:B<=r)(G:∀k,B<=k->k<W.heap.size->W'.heap[k]?=W.heap[k]?):GAt K W' r c:=by
 obtain⟨Y,q,Z,D⟩:=h;exact⟨Y,q,by rw[G r hr (x6C Z)];exact Z,D⟩
theorem x0n.keep(h:x0n W B p rs)(X:W.heap.size<=W'.heap.size)(G:∀k,B<=k->k<W.heap.size->W'.heap[k]?=W.heap[k]?):x0n W' B p rs:=by
 obtain⟨H,J,S,n,Y,I,i,P,s,d,l,z,y,N,o,c1,c2,u,Z,D,R⟩:=h;refine⟨H,J,S,n,Y,I,i,P,s,d,l,z,y,N,o,c1,c2,u,by rw[G p D (x6C Z)];exact Z,D,⟨R.p1.keep X G,R.p2.keep X G,R.p3.keep X G,R.p4.keep X G,R.p5.keep X G,R.q1.keep X G,R.q2.keep X G,R.q3.keep X G,R.q4.keep X G,R.q5.keep X G,?_,?_⟩⟩
 ·obtain⟨C,r2,A,f,b1,m,M,T⟩:=R.co;exact⟨C,r2,A,f,b1,m,M.keep b1 G,T.keep m G⟩
 ·obtain⟨r,e,b,c,g⟩:=R.mi;exact⟨r,e,b,c,g.keep b G⟩
theorem x0n.lower{B'}(h:x0n W B p rs)(X:B'<=B):x0n W B' p rs:=by
 obtain⟨H,J,S,n,Y,I,i,P,s,d,l,z,y,N,o,c1,c2,u,Z,D,R⟩:=h;exact⟨H,J,S,n,Y,I,i,P,s,d,l,z,y,N,o,c1,c2,u,Z,f6J,R.p1.lower X,R.p2.lower X,R.p3.lower X,R.p4.lower X,R.p5.lower X,R.q1.lower X,R.q2.lower X,R.q3.lower X,R.q4.lower X,R.q5.lower X,R.co.lower X,R.mi.lower X⟩
end
open Ti
namespace Cn
def vget(rs:List Rec)(f c:Int):Int:=match hit rs f c with | some r=>value r | Option.none=>0
def rget(rs:List Rec)(f c:Int):Rec:=match hit rs f c with | some r=>r | Option.none=>none
end Cn
def y6z(w:World)(b:Bool)(e:Ending)(w':World):Prop:=e=.returned (.bool b)/\∃m,w'=w.drewN m
theorem tget{W B t rs}{f}(b:TrP W B t (Cn.rangesA (fun _ r=>Cn.value r) 1 (Cn.famOf f rs)))(q:(Cn.check6 rs).2=0)(U:f≠10/\f≠0) c(T:Fi c):Calls prog 146 #[t,.int .i64 c] W (x1r W (Cn.vget rs f c)):=by
 obtain⟨a,m,e,L,X,n⟩:=b;have S:=(Cn.x0m.1 q).2.1;have N:=Cn.y6v q U (fun r u A=>Cn.x7a (S r u) (fun e=>U.1 (by rw[<- A,e];exact e8M))) L X;have:=get4 t m 0 c W ⟨B,n⟩ T;rw[N.2 c]at this;exact this
theorem x7g{B p rs} c w(E:x0n w B p rs)(q:(Cn.check6 rs).2=0)(T:Rune c):Calls prog 94 #[.pointer (some ⟨p,0,none⟩),.int .i32 c] w (x1r w (Cn.vget rs 1 c)):=by
 obtain⟨H,J,S,n,Y,I,i,P,s,d,l,z,y,N,o,c1,c2,u,Z,D,R⟩:=E;obtain⟨L,F⟩:=T;have K:=O (tget R.p1 q e8N c ⟨f6J,f6J⟩);have x:w.cell? ⟨p,0,none⟩=some H:=cell_of (j:=0) Z (by show 0<18;exact f6J);obtain⟨a,m,e,-⟩:=R.p1;subst e;go_enter func94,ntmps94;exact W4C
theorem x7T{B p rs} c w(E:x0n w B p rs)(q:(Cn.check6 rs).2=0)(T:Rune c):Calls prog 98 #[.pointer (some ⟨p,0,none⟩),.int .i32 c] w (x1r w (Cn.vget rs 2 c)):=by
 obtain⟨H,J,S,n,Y,I,i,P,s,d,l,z,y,N,o,c1,c2,u,Z,D,R⟩:=E;obtain⟨L,F⟩:=T;have K:=O (tget R.p2 q e8N c ⟨f6J,f6J⟩);have x:w.cell? ⟨p,1,none⟩=some J:=cell_of (j:=1) Z (by show 1<18;exact f6J);obtain⟨a,m,e,-⟩:=R.p2;subst e;go_enter func98,ntmps98;exact W4C
theorem y6S{B p rs} c w(E:x0n w B p rs)(q:(Cn.check6 rs).2=0)(T:Rune c):Calls prog 156 #[.pointer (some ⟨p,0,none⟩),.int .i32 c] w (x1r w (Cn.vget rs 4 c)):=by
 obtain⟨H,J,S,n,Y,I,i,P,s,d,l,z,y,N,o,c1,c2,u,Z,D,R⟩:=E;obtain⟨L,F⟩:=T;have K:=O (tget R.p3 q e8N c ⟨f6J,f6J⟩);have x:w.cell? ⟨p,2,none⟩=some S:=cell_of (j:=2) Z (by show 2<18;exact f6J);obtain⟨a,m,e,-⟩:=R.p3;subst e;go_enter func156,ntmps156;exact W4C
theorem y8H{B p rs} c w(E:x0n w B p rs)(q:(Cn.check6 rs).2=0)(T:Rune c):Calls prog 309 #[.pointer (some ⟨p,0,none⟩),.int .i32 c] w (x1r w (Cn.vget rs 5 c)):=by
 obtain⟨H,J,S,n,Y,I,i,P,s,d,l,z,y,N,o,c1,c2,u,Z,D,R⟩:=E;obtain⟨L,F⟩:=T;have K:=O (tget R.p4 q e8N c ⟨f6J,f6J⟩);have x:w.cell? ⟨p,3,none⟩=some n:=cell_of (j:=3) Z (by show 3<18;exact f6J);obtain⟨a,m,e,-⟩:=R.p4;subst e;go_enter func309,ntmps309;exact W4C
theorem y9a{B p rs} c w(E:x0n w B p rs)(q:(Cn.check6 rs).2=0)(T:Rune c):Calls prog 209 #[.pointer (some ⟨p,0,none⟩),.int .i32 c] w (y6z w (Cn.vget rs 6 c != 0)):=by
 obtain⟨H,J,S,n,Y,I,i,P,s,d,l,z,y,N,o,c1,c2,u,Z,D,R⟩:=E;obtain⟨L,F⟩:=T;have K:=O (tget R.p5 q e8N c ⟨f6J,f6J⟩);have x:w.cell? ⟨p,4,none⟩=some Y:=cell_of (j:=4) Z (by show 4<18;exact f6J);obtain⟨a,m,e,-⟩:=R.p5;subst e;go_enter func209,ntmps209;exact W4C
namespace Cn
theorem y8N{k f}(h:fam k=f):(f=1->1<=k/\k<=5)/\(f=2->k=6)/\(3<f->k=f+5):=by
 subst h;unfold fam;split
 ·omega
 ·omega
variable {rs:List Rec}
theorem z0J{r}(h:6<=r.kind)(D:r.kind≠11):value r=r.n:=by
 unfold value;rw[if_neg f6J,if_neg f6J,if_neg f6J,if_neg f6J,if_neg D]
theorem z3n(q:(check6 rs).2=0) c:cls rs c=vget rs 2 c:=by
 unfold cls vget
 cases he:hit rs 2 c with
 | none=>rfl
 | some r =>
  have G:=(y8N ((x1U q e8N r).1 he).2.1).2.1 rfl;exact(z0J f6J f6J).symm
end Cn
structure Ovr(w w1 w4 W:World)(ao:Option Addr)(ps:List (Rec×Value))(k:Nat):Prop where
 sz:W.heap.size=w4.heap.size
 bel:Below w.heap.size w W
 far:∀b,w1.heap.size<=b->W.heap[b]?=w4.heap[b]?
 rcd:ps.length=0\/∃g cur,ao=some ⟨g,0,none⟩/\w.heap.size<=g/\g<w1.heap.size/\W.heap[g]?=some (.cells cur 67 (0,0))/\ps.length*8<=cur.size/\∀i,k<=i->i<ps.length->cur.getD (i*8+4) undef=(ps.getD i (Cn.none,undef)).2
 lst:∀q∈ps,q.1.to≠[]->∃gi capi cur,q.2=.slice (some ⟨gi,0,none⟩) q.1.to.length capi/\w.heap.size<=gi/\gi<w1.heap.size/\W.heap[gi]?=some (.cells cur 21 (0,0))/\q.1.to.length<=cur.size
section
variable {w w1 w4 W:World} {ao:Option Addr} {ps:List (Rec×Value)} {cap k:Nat}
theorem Ovr.start(h:Rown w1 w.heap.size (.slice ao ps.length cap) ps)(Q:Bw w w4)(R:Bw w1 w4):Ovr w w1 w4 w4 ao ps 0:=by
 refine⟨rfl,Q,fun k _=>rfl,?_,fun q m F=>?_⟩
 ·rcases h.1.2 with⟨_,A⟩ | ⟨g,J,t,z,C,Y,E,T,X,K⟩
  ·exact .inl A
  ·obtain⟨P,_,D⟩:=Value.slice.inj z;have H:g<w1.heap.size:=x6C Y;refine .inr ⟨g,t,P,C,H,by rw[R.block g H];exact Y,f6J,fun i _ hi=>?_⟩;have e:=x1v ps i 4 hi f6J;have S:(x0y (ps.getD i (Cn.none,undef)))[4]?=some (ps.getD i (Cn.none,undef)).2:=rfl;rw[S,<- K,List.getElem?_take,if_pos f6J,Array.getElem?_toList]at e;rw[Array.getD_eq_getD_getElem?,e];rfl
 ·have y:=h.2 q m;rcases y.row.2 with⟨_,A⟩ | ⟨g,J,t,z,C,Y,E,T,X,K⟩
  ·grind
  ·have H:=(y.2.2.lt g (by rw[z];rfl)).2;exact⟨g,J,t,z,C,H,by rw[R.block g H];exact Y,f6J⟩
theorem y1f(W:World) a v:(W.setCell a v).heap.size=W.heap.size:=by
 unfold World.setCell;split<;>simp
theorem Ovr.item(h:Ovr w w1 w4 W ao ps k){gi cur}(M:w.heap.size<=gi)(g2:gi<w1.heap.size)(Y:W.heap[gi]?=some (.cells cur 21 (0,0))) j v:Ovr w w1 w4 (W.setCell ⟨gi,j,none⟩ v) ao ps k:=by
 refine⟨by rw[y1f];exact h.sz,x0d h.bel M v,fun b Q=>by rw[x0g v f6J];exact h.far b Q,?_,fun q m F=>?_⟩
 ·rcases h.rcd with A | ⟨S,H,e,I,E,G,T⟩
  ·exact .inl A
  ·refine .inr ⟨S,H,e,I,E,?_,T⟩;rw[x0g v (fun e=>by subst e;rw[Y]at G;simp at G)];exact G
 ·obtain⟨S,D,H,P,f,J,o,N⟩:=h.lst q m F;by_cases C:S=gi
  ·subst C;rw[Y]at o;simp only[Option.some.injEq,Obj.cells.injEq,and_true]at o;subst o;exact⟨S,D,_,P,f,J,x0f Y v,by rw[Array.size_setIfInBounds];exact N⟩
  ·exact⟨S,D,H,P,f,J,by rw[x0g v C];exact o,N⟩
theorem y9H W g off(q:Rec×Value):(putR W g off q).heap.size=W.heap.size:=by
 unfold putR;simp only[y1f]
theorem Ovr.wipe(h:Ovr w w1 w4 W ao ps k){g}(C:ao=some ⟨g,0,none⟩)(G:k<ps.length)(q:Rec×Value):Ovr w w1 w4 (putR W g (k*8) q) ao ps (k+1):=by
 rcases h.rcd with A | ⟨S,t,e,M,T,Y,X,E⟩
 ·omega
 ·rw[C]at e;simp only[Option.some.injEq,Addr.mk.injEq,and_true]at e;subst e;refine⟨by rw[y9H];exact h.sz,x8m h.bel M q,fun b Q=>by rw[x9v q f6J];exact h.far b Q,.inr ⟨g,_,C,M,T,y9G Y q,by rw[z0j];exact X,fun j K z=>?_⟩,fun p L F=>?_⟩
  ·rw[<- E j f6J z];simp only[Array.getD_eq_getD_getElem?];rw[z0i t (k*8) q f6J,if_neg f6J]
  ·obtain⟨R,D,H,P,f,J,o,N⟩:=h.lst p L F;refine⟨R,D,H,P,f,J,?_,N⟩;rw[x9v q (fun e=>by subst e;rw[Y]at o;simp at o)];exact o
end
namespace Cn
def x1m(r:Rec):Bool :=
  if r.kind=1\/r.kind=2\/r.kind=11 then bare r false false false false false
  else if r.kind=3 then bare r false true false false false&&list r.to 1 24
  else if r.kind=4 then bare r true true false false false&&decide (1<=r.n/\r.n<=64)&&list r.to 1 1&&decide (r.to.getD 0 0+r.hi-r.lo<=1114111/\(r.to.getD 0 0+r.hi-r.lo<55296\/57343<r.to.getD 0 0))
  else if r.kind=5 then decide (r.lo=r.hi)&&scalar r.lo&&bare r false true false false false&&list r.to 0 24
  else if r.kind=13 then decide (r.lo=r.hi)&&scalar r.lo&&bare r false true false false false&&list r.to 1 24
  else if r.kind=6 then bare r true false false false false&&decide (1<=r.n/\r.n<=254)
  else if r.kind=7 then decide (r.lo=r.hi)&&scalar r.lo&&bare r false true false false false&&list r.to 2 2
  else if r.kind=8 then decide (r.lo=r.hi)&&scalar r.lo&&bare r false true false false false&&list r.to 1 2
  else if r.kind=9 then bare r true false false false false&&decide (0<=r.n/\r.n<=10)
  else if r.kind=10 then bare r true false false false false&&decide (0<=r.n/\r.n<=5)
  else if r.kind=12 then bare r false false true false false&&nameL r.name
  else bare r false false false false true&&weight r.wt
theorem y5W{r}(h:fam r.kind=0):right r=60:=by unfold right;rw[if_pos h]
theorem z2T{r}(h:r.kind=15):right r=ansG (decide (r.lo=0)&&decide (r.hi=0)&&bare r false false true true true&&nameL r.name&&nameL r.other&&decide (r.name≠r.other)&&weight r.wt):=by
 unfold right ansG;rw[if_neg s8h,if_pos h];simp[and_assoc]
theorem y5V{r}(A:fam r.kind≠0)(R:r.kind≠15):right r=ansG (decide (0<=r.lo/\r.lo<=r.hi/\r.hi<=1114111)&&x1m r):=by
 unfold right;rw[if_neg A,if_neg R];rfl
theorem y7W{k}(h:fam k≠0):1<=k/\k<=15:=by
 unfold fam at h;split at h
 ·exact absurd rfl h
 ·omega
end Cn
theorem z4b{r}(h:r.kind=1):Cn.x1m r=(Cn.bare r false false false false false):=by
 unfold Cn.x1m;rw[if_pos f6J]
theorem z4c{r}(h:r.kind=2):Cn.x1m r=(Cn.bare r false false false false false):=by
 unfold Cn.x1m;rw[if_pos f6J]
theorem z4d{r}(h:r.kind=3):Cn.x1m r=(Cn.bare r false true false false false&&Cn.list r.to 1 24):=by
 unfold Cn.x1m;rw[if_neg f6J,if_pos f6J]
theorem z9I{r}(h:r.kind=4):Cn.x1m r=(Cn.bare r true true false false false&&decide (1<=r.n/\r.n<=64)&&Cn.list r.to 1 1&&decide (r.to.getD 0 0+r.hi-r.lo<=1114111/\(r.to.getD 0 0+r.hi-r.lo<55296\/57343<r.to.getD 0 0))):=by
 unfold Cn.x1m;rw[if_neg f6J,if_neg f6J,if_pos f6J]
theorem z4e{r}(h:r.kind=5):Cn.x1m r=((decide (r.lo=r.hi)&&Cn.scalar r.lo)&&Cn.bare r false true false false false&&Cn.list r.to 0 24):=by
 unfold Cn.x1m;rw[if_neg f6J,if_neg f6J,if_neg f6J,if_pos f6J]
theorem z4f{r}(h:r.kind=6):Cn.x1m r=(Cn.bare r true false false false false&&decide (1<=r.n/\r.n<=254)):=by
 unfold Cn.x1m;rw[if_neg f6J,if_neg f6J,if_neg f6J,if_neg f6J,if_neg f6J,if_pos f6J]
theorem z4g{r}(h:r.kind=7):Cn.x1m r=((decide (r.lo=r.hi)&&Cn.scalar r.lo)&&Cn.bare r false true false false false&&Cn.list r.to 2 2):=by
 unfold Cn.x1m;rw[if_neg f6J,if_neg f6J,if_neg f6J,if_neg f6J,if_neg f6J,if_neg f6J,if_pos f6J]
theorem z4h{r}(h:r.kind=8):Cn.x1m r=((decide (r.lo=r.hi)&&Cn.scalar r.lo)&&Cn.bare r false true false false false&&Cn.list r.to 1 2):=by
 unfold Cn.x1m;rw[if_neg f6J,if_neg f6J,if_neg f6J,if_neg f6J,if_neg f6J,if_neg f6J,if_neg f6J,if_pos f6J]
theorem z4i{r}(h:r.kind=9):Cn.x1m r=(Cn.bare r true false false false false&&decide (0<=r.n/\r.n<=10)):=by
 unfold Cn.x1m;rw[if_neg f6J,if_neg f6J,if_neg f6J,if_neg f6J,if_neg f6J,if_neg f6J,if_neg f6J,if_neg f6J,if_pos f6J]
theorem z6S{r}(h:r.kind=10):Cn.x1m r=(Cn.bare r true false false false false&&decide (0<=r.n/\r.n<=5)):=by
 unfold Cn.x1m;rw[if_neg f6J,if_neg f6J,if_neg f6J,if_neg f6J,if_neg f6J,if_neg f6J,if_neg f6J,if_neg f6J,if_neg f6J,if_pos f6J]
theorem z0w{r}(h:r.kind=11):Cn.x1m r=(Cn.bare r false false false false false):=by
 unfold Cn.x1m;rw[if_pos f6J]
theorem z0x{r}(h:r.kind=12):Cn.x1m r=(Cn.bare r false false true false false&&Cn.nameL r.name):=by
 unfold Cn.x1m;rw[if_neg f6J,if_neg f6J,if_neg f6J,if_neg f6J,if_neg f6J,if_neg f6J,if_neg f6J,if_neg f6J,if_neg f6J,if_neg f6J,if_pos f6J]
theorem z0y{r}(h:r.kind=13):Cn.x1m r=((decide (r.lo=r.hi)&&Cn.scalar r.lo)&&Cn.bare r false true false false false&&Cn.list r.to 1 24):=by
 unfold Cn.x1m;rw[if_neg f6J,if_neg f6J,if_neg f6J,if_neg f6J,if_pos f6J]
theorem z0z{r}(h:r.kind=14):Cn.x1m r=(Cn.bare r false false false false true&&Cn.weight r.wt):=by
 unfold Cn.x1m;rw[if_neg f6J,if_neg f6J,if_neg f6J,if_neg f6J,if_neg f6J,if_neg f6J,if_neg f6J,if_neg f6J,if_neg f6J,if_neg f6J,if_neg f6J]
theorem y0X:z3x:=by
 intro r F w U X;obtain⟨ao,M,rfl,z,_⟩:=X.shape;unfold recV;by_cases A:Cn.fam r.kind=0
 ·rw[Cn.y5W A];exact z6J r.kind r.lo r.hi r.n ao r.to.length M r.name r.other r.wt w U.kind A
 ·have C:Hid (∀W t S g j E,Bw w W->Calls prog 113 #[recV r (.slice ao r.to.length M),.bool t,.bool S,.bool g,.bool j,.bool E] W (x0c W (Cn.bare r t S g j E))):=fun W t S g j E h=>y2E r _ t S g j E W (X.below h);unfold recV at C;have KN:Hid (∀W,Calls prog 114 #[.string r.name] W fun e l=>e=.returned (.bool (Cn.nameL r.name))/\l=W):=fun W=>x5A r.name W;have y:Hid (∀W,Calls prog 115 #[.float .f64 r.wt] W fun e l=>e=.returned (.bool (Cn.weight r.wt))/\l=W):=fun W=>x9B r.wt W U.wt;by_cases R:r.kind=15
  ·rw[Cn.z2T R];have c:Hid (∀W,Calls prog 114 #[.string r.other] W fun e l=>e=.returned (.bool (Cn.nameL r.other))/\l=W):=fun W=>x5A r.other W;rw[R]at C ⊢;exact rw_15 r.lo r.hi r.n ao r.to.length M r.name r.other r.wt w U.lo U.hi _ _ _ _ (fun W h=>V C W false false true true true h) KN c y
  ·have KL:∀a b:Nat,Hid (∀W,Bw w W->Calls prog 117 #[.slice ao r.to.length M,.int .i64 a,.int .i64 b] W fun e l=>e=.returned (.bool (Cn.list r.to a b))/\l=W):=fun a b W h=>y2F _ r.to a b W (X.below h) U.len;have G:=Cn.y7W A;rw[Cn.y5V A R];have I:Hid (decide (0<=r.lo/\r.lo<=r.hi/\r.hi<=1114111)=true->(decide (r.lo=r.hi)&&Cn.scalar r.lo)=(decide (r.lo=r.hi)&&Cn.scalar r.lo)):=fun _=>rfl;have D:r.kind=1\/r.kind=2\/r.kind=3\/r.kind=4\/r.kind=5\/r.kind=6\/r.kind=7\/r.kind=8\/r.kind=9\/r.kind=10\/r.kind=11\/r.kind=12\/r.kind=13\/r.kind=14:=f6J;rcases D with hk1 | hk1 | hk1 | hk1 | hk1 | hk1 | hk1 | hk1 | hk1 | hk1 | hk1 | hk1 | hk1 | hk1
   ·exact z9u r.kind r.lo r.hi r.n (.inl hk1) ao r.to.length M r.name r.other r.wt w U.lo U.hi _ _ _ (rfl:_=decide (0<=r.lo/\r.lo<=r.hi/\r.hi<=1114111)) I (Cn.bare r) C (fun e=>congrArg (fun x=>ansG (decide (0<=r.lo/\r.lo<=r.hi/\r.hi<=1114111)&&x)) (z4b e)) (fun e=>congrArg (fun x=>ansG (decide (0<=r.lo/\r.lo<=r.hi/\r.hi<=1114111)&&x)) (z4c e))
   ·exact z9u r.kind r.lo r.hi r.n (.inr hk1) ao r.to.length M r.name r.other r.wt w U.lo U.hi _ _ _ (rfl:_=decide (0<=r.lo/\r.lo<=r.hi/\r.hi<=1114111)) I (Cn.bare r) C (fun e=>congrArg (fun x=>ansG (decide (0<=r.lo/\r.lo<=r.hi/\r.hi<=1114111)&&x)) (z4b e)) (fun e=>congrArg (fun x=>ansG (decide (0<=r.lo/\r.lo<=r.hi/\r.hi<=1114111)&&x)) (z4c e))
   ·exact z9v r.kind r.lo r.hi r.n (.inr hk1) ao r.to.length M r.name r.other r.wt w U.lo U.hi _ _ _ (rfl:_=decide (0<=r.lo/\r.lo<=r.hi/\r.hi<=1114111)) I (Cn.bare r) C _ (KL 1 24) (fun e=>congrArg (fun x=>ansG (decide (0<=r.lo/\r.lo<=r.hi/\r.hi<=1114111)&&x)) (z0w e)) (fun e=>congrArg (fun x=>ansG (decide (0<=r.lo/\r.lo<=r.hi/\r.hi<=1114111)&&x)) (z4d e))
   ·have H:Hid (Cn.list r.to 1 1=true->Rune (r.to.getD 0 0)/\∃b P,ao=some ⟨b,P,none⟩/\r.to.length=1/\r.to.length<=M/\∀W,Bw w W->W.cell? ⟨b,P,none⟩=some (.int .i32 (r.to.getD 0 0))):=fun h=>by
     unfold Cn.list at h;rw[Bool.and_eq_true]at h;have Z:=o0d h.1;have K:r.to.length=1:=f6J;obtain⟨b,P,cap,d,c1,c2,T⟩:=X.place f6J;simp only[Value.slice.injEq,true_and]at d;obtain⟨rfl,rfl⟩:=d;refine⟨x1d X f6J,b,P,rfl,K,z,fun W J=>?_⟩;have o:=T 0 f6J;rw[Nat.add_zero]at o;rw[J.cell (x0a o)];exact o
    exact rwg_e r.kind r.lo r.hi r.n (hk1) ao r.to.length M r.name r.other r.wt w U.lo U.hi U.n _ _ _ (rfl:_=decide (0<=r.lo/\r.lo<=r.hi/\r.hi<=1114111)) I (Cn.bare r) C _ (KL 1 1) (r.to.getD 0 0) H (decide (r.to.getD 0 0+r.hi-r.lo<=1114111/\(r.to.getD 0 0+r.hi-r.lo<55296\/57343<r.to.getD 0 0))) (fun h=>o0d h) (fun h=>g2b) (decide (1<=r.n/\r.n<=64)) (fun h=>o0d h) (fun h=>g2b) (fun e=>congrArg (fun x=>ansG (decide (0<=r.lo/\r.lo<=r.hi/\r.hi<=1114111)&&x)) (z9I e))
   ·exact z9w r.kind r.lo r.hi r.n (.inl hk1) ao r.to.length M r.name r.other r.wt w U.lo U.hi _ _ _ (rfl:_=decide (0<=r.lo/\r.lo<=r.hi/\r.hi<=1114111)) I (Cn.bare r) C _ (KL 0 24) _ (KL 1 24) (fun e=>congrArg (fun x=>ansG (decide (0<=r.lo/\r.lo<=r.hi/\r.hi<=1114111)&&x)) (z4e e)) (fun e=>congrArg (fun x=>ansG (decide (0<=r.lo/\r.lo<=r.hi/\r.hi<=1114111)&&x)) (z0y e))
   ·exact z9y r.kind r.lo r.hi r.n (.inl hk1) ao r.to.length M r.name r.other r.wt w U.lo U.hi U.n _ _ _ (rfl:_=decide (0<=r.lo/\r.lo<=r.hi/\r.hi<=1114111)) I (Cn.bare r) C (decide (1<=r.n/\r.n<=254)) (fun h=>o0d h) (fun h=>g2b) (decide (0<=r.n/\r.n<=10)) (fun h=>o0d h) (fun h=>g2b) (fun e=>congrArg (fun x=>ansG (decide (0<=r.lo/\r.lo<=r.hi/\r.hi<=1114111)&&x)) (z4f e)) (fun e=>congrArg (fun x=>ansG (decide (0<=r.lo/\r.lo<=r.hi/\r.hi<=1114111)&&x)) (z4i e))
   ·exact z9x r.kind r.lo r.hi r.n (.inl hk1) ao r.to.length M r.name r.other r.wt w U.lo U.hi _ _ _ (rfl:_=decide (0<=r.lo/\r.lo<=r.hi/\r.hi<=1114111)) I (Cn.bare r) C _ (KL 2 2) _ (KL 1 2) (fun e=>congrArg (fun x=>ansG (decide (0<=r.lo/\r.lo<=r.hi/\r.hi<=1114111)&&x)) (z4g e)) (fun e=>congrArg (fun x=>ansG (decide (0<=r.lo/\r.lo<=r.hi/\r.hi<=1114111)&&x)) (z4h e))
   ·exact z9x r.kind r.lo r.hi r.n (.inr hk1) ao r.to.length M r.name r.other r.wt w U.lo U.hi _ _ _ (rfl:_=decide (0<=r.lo/\r.lo<=r.hi/\r.hi<=1114111)) I (Cn.bare r) C _ (KL 2 2) _ (KL 1 2) (fun e=>congrArg (fun x=>ansG (decide (0<=r.lo/\r.lo<=r.hi/\r.hi<=1114111)&&x)) (z4g e)) (fun e=>congrArg (fun x=>ansG (decide (0<=r.lo/\r.lo<=r.hi/\r.hi<=1114111)&&x)) (z4h e))
   ·exact z9y r.kind r.lo r.hi r.n (.inr hk1) ao r.to.length M r.name r.other r.wt w U.lo U.hi U.n _ _ _ (rfl:_=decide (0<=r.lo/\r.lo<=r.hi/\r.hi<=1114111)) I (Cn.bare r) C (decide (1<=r.n/\r.n<=254)) (fun h=>o0d h) (fun h=>g2b) (decide (0<=r.n/\r.n<=10)) (fun h=>o0d h) (fun h=>g2b) (fun e=>congrArg (fun x=>ansG (decide (0<=r.lo/\r.lo<=r.hi/\r.hi<=1114111)&&x)) (z4f e)) (fun e=>congrArg (fun x=>ansG (decide (0<=r.lo/\r.lo<=r.hi/\r.hi<=1114111)&&x)) (z4i e))
   ·exact rwg_g r.kind r.lo r.hi r.n (hk1) ao r.to.length M r.name r.other r.wt w U.lo U.hi U.n _ _ _ (rfl:_=decide (0<=r.lo/\r.lo<=r.hi/\r.hi<=1114111)) I (Cn.bare r) C (decide (0<=r.n/\r.n<=5)) (fun h=>o0d h) (fun h=>g2b) (fun e=>congrArg (fun x=>ansG (decide (0<=r.lo/\r.lo<=r.hi/\r.hi<=1114111)&&x)) (z6S e))
   ·exact z9v r.kind r.lo r.hi r.n (.inl hk1) ao r.to.length M r.name r.other r.wt w U.lo U.hi _ _ _ (rfl:_=decide (0<=r.lo/\r.lo<=r.hi/\r.hi<=1114111)) I (Cn.bare r) C _ (KL 1 24) (fun e=>congrArg (fun x=>ansG (decide (0<=r.lo/\r.lo<=r.hi/\r.hi<=1114111)&&x)) (z0w e)) (fun e=>congrArg (fun x=>ansG (decide (0<=r.lo/\r.lo<=r.hi/\r.hi<=1114111)&&x)) (z4d e))
   ·exact z9z r.kind r.lo r.hi r.n (.inl hk1) ao r.to.length M r.name r.other r.wt w U.lo U.hi _ _ _ (rfl:_=decide (0<=r.lo/\r.lo<=r.hi/\r.hi<=1114111)) I (Cn.bare r) C _ KN _ y (fun e=>congrArg (fun x=>ansG (decide (0<=r.lo/\r.lo<=r.hi/\r.hi<=1114111)&&x)) (z0x e)) (fun e=>congrArg (fun x=>ansG (decide (0<=r.lo/\r.lo<=r.hi/\r.hi<=1114111)&&x)) (z0z e))
   ·exact z9w r.kind r.lo r.hi r.n (.inr hk1) ao r.to.length M r.name r.other r.wt w U.lo U.hi _ _ _ (rfl:_=decide (0<=r.lo/\r.lo<=r.hi/\r.hi<=1114111)) I (Cn.bare r) C _ (KL 0 24) _ (KL 1 24) (fun e=>congrArg (fun x=>ansG (decide (0<=r.lo/\r.lo<=r.hi/\r.hi<=1114111)&&x)) (z4e e)) (fun e=>congrArg (fun x=>ansG (decide (0<=r.lo/\r.lo<=r.hi/\r.hi<=1114111)&&x)) (z0y e))
   ·exact z9z r.kind r.lo r.hi r.n (.inr hk1) ao r.to.length M r.name r.other r.wt w U.lo U.hi _ _ _ (rfl:_=decide (0<=r.lo/\r.lo<=r.hi/\r.hi<=1114111)) I (Cn.bare r) C _ KN _ y (fun e=>congrArg (fun x=>ansG (decide (0<=r.lo/\r.lo<=r.hi/\r.hi<=1114111)&&x)) (z0x e)) (fun e=>congrArg (fun x=>ansG (decide (0<=r.lo/\r.lo<=r.hi/\r.hi<=1114111)&&x)) (z0z e))
theorem y9P:y1x:=x9z y0X y0V
theorem y9Q:y6D:=y0U y9P x9A
namespace Cn
theorem x4L{l}(h:(check l).2=0):(check l).1=0:=by
 unfold check at h ⊢;by_cases Z:(check6 l).2≠0
 ·grind
 ·rw[if_neg Z]at h ⊢
  cases hx:x0W l 0 l with
  | some x=>rw[hx]at h;exact absurd h (x3S _ _ _ hx)
  | none=>grind
end Cn
theorem y2B{w1 B v}{ps:List (Rec×Value)}{rs}(hr:Rown w1 B v ps)(L:ps.map (·.1)=rs)(S:rs.length<=1000000000)(U:∀r∈rs,RecFit r):Rcs w1 v rs:=by
 subst L;exact hr.rcs t2X fun p Y=>U _ (List.mem_map.2 ⟨p,Y,rfl⟩)
theorem Rown.lower9{w B B' v}{ps:List (Rec×Value)}(h:Rown w B v ps)(Q:B'<=B):Rown w B' v ps:=⟨y9Z h.1 Q,fun p L=>(h.2 p L).lower Q⟩
def z7q(w:World)(rs:List Rec)(e:Ending)(w':World):Prop:=Below w.heap.size w w'/\((¬(Cn.check rs).2=0/\e=.returned (.tuple #[.pointer none,.slice none 0 0,.int .i64 0]))\/((Cn.check rs).2=0/\∃p v ps,e=.returned (.tuple #[.pointer (some ⟨p,0,none⟩),v,.int .i64 1])/\x0n w' w.heap.size p rs/\Rown w' w.heap.size v ps/\ps.map (·.1)=rs))
theorem y3P v rs0 w(hg:Glob w)(N:Rcs w v rs0):Calls prog 7 #[v] w (z7q w (rs0.take 150)):=by
 have aK:=N.1;obtain⟨ao,cap,rfl,aP,aQ⟩:=N.shape;obtain⟨n,hn⟩:∃n,n=min rs0.length 150:=⟨_,rfl⟩;have aL:min (rs0.length:Int) 150=(n:Int):=f6J;have d:n<=rs0.length:=f6J;have aV:n<=150:=f6J;have ai:rs0.take 150=rs0.take n:=(by rw[hn,List.take_eq_take_min,Nat.min_comm]);have hH:=N.head d;rw[ai];have l:∀r∈rs0.take n,RecFit r:=fun r hr=>N.2.1 r (List.mem_of_mem_take hr);have z:(rs0.take n).length=n:=U3A;clear ai hn N;generalize rs0.take n=rs,rs0.length=L at *;have K1:=O (x4s _ _ w hH);have D:=O l;have c:=O z;have HG:=O hg;go_enter func7,ntmps7;go_wp2_with fail;refine(V K1).mono ?_;rintro e1 w1 ⟨v1,ab,rfl,p1,r1,b1⟩;have R1:=y2B r1 p1 (by rw[V c];exact f6J) (V D);have K2:=O (x4s _ _ w1 R1);obtain⟨a1,az,aj,_,aI⟩:=R1.shape;rw[V c]at aj;have F:ab.length=n:=(by have:=congrArg List.length p1;rw[List.length_map,V c]at this;exact this);subst aj;have o:=O R1;have I:=O r1;have Q:=O b1;have U:=O F;go_wp2_with fail;refine(V K2).mono ?_;rintro e2 w2 ⟨v2,aH,rfl,p2,r2,b2⟩;have u:=y2B r2 p2 (by rw[V c];exact f6J) (V D);have K3:=O (y9Q _ _ w2 u);obtain⟨a2,aA,s,_,aJ⟩:=u.shape;rw[V c]at s;subst s;have Z:=O u;have aq:=O r2;have i:=O b2;go_wp2_with fail;refine c0m K3 fun w3 b3=>?_;have X:=O b3;have K4:=O (y1M _ rs w3 (((V HG).on (V Q)).on (x0b (V i) b3)) ((V o).below (x0b (V i) b3)));go_wp2_with fail;refine(V K4).mono ?_;rintro e4 w4 ⟨b4,h4⟩;have J:=O b4;have K5:=O (y2N _ _ rs w4 ((V o).below (x0b (x0b (V i) (V X)) b4)) ((V Z).below (x0b (V X) b4)));rcases h4 with⟨ag,rfl⟩ | ⟨h0,p,rfl,hD⟩
 ·have f:=O ag;have hq:((Cn.check rs).2 != 0)=true:=bne_iff_ne.2 ag;generalize hck:Cn.check rs=q at *;have T:=O hck;obtain⟨q1,q2⟩:=q;simp only at hq;go_wp2_with(go_at_call 25;refine(V K5).mono ?_;rintro e5 M ⟨rfl,P⟩;have A:=O P;clear K5 P);go_ret3;exact⟨x0b (x0b (V Q) (x0b (x0b (V i) (V X)) (V J))) (V A),.inl ⟨by rw[V T];exact V f,rfl⟩⟩
 ·have hz:=Cn.x4L h0;have aO:=O h0;have HD:=O hD;generalize hck:Cn.check rs=q at *;have T:=O hck;obtain⟨q1,q2⟩:=q;simp only at h0 hz;subst h0 hz;go_wp2_with(go_at_call 25;refine(V K5).mono ?_;rintro e5 M ⟨rfl,P⟩;have A:=O P;clear K5 P);have E:=O (x0b (x0b (x0b (V i) (V X)) (V J)) (V A));have ar:=O (Ovr.start (w:=w) (w1:=w1) (w4:=M) (cap:=az) (ao:=a1) (ps:=ab) (by rw[V U];exact V I) (x0b (V Q) (V E)) (V E))
  have am:Hid (∀k,k<n->∃ak ck,(ab.getD k (Cn.none,undef)).2=.slice ak (ab.getD k (Cn.none,undef)).1.to.length ck/\(ab.getD k (Cn.none,undef)).1.to.length<=140737488355328/\ck<=9223372036854775807/\(ab.getD k (Cn.none,undef)).1.to.length<=ck):=fun k hk=>by
   have y:ab.getD k (Cn.none,undef)∈ab:=by
    have:=V U;simp[List.getD,(f6J:k<ab.length)]
   obtain⟨ak,ck,e,h1,h2⟩:=((V I).2 _ y).sk.shape;exact⟨ak,ck,e,((V I).2 _ y).sk.len,h2,h1⟩
  have af:Hid (∀W k,Ovr w w1 M W a1 ab k->z7q w rs (.returned (.tuple #[.pointer (some ⟨p,0,none⟩),.slice a2 n aA,.int .i64 1])) W):=fun W k hO=>by
   have aM:=(V i).size;have aN:=(x0b (V i) (V X)).size;have aZ:=(V Q).size;refine⟨hO.bel,.inr ⟨by rw[V T],p,_,aH,rfl,?_,?_,p2⟩⟩
   ·exact(((V HD).below (V A)).keep (by rw[hO.sz];exact l0r _) (fun b hb _=>hO.far b f6J)).lower f6J
   ·exact(((V aq).on7 (x0b (x0b (V X) (V J)) (V A))).far7 (fun b hb _=>hO.far b hb)).lower9 f6J
  go_loopw[12,13] (fun ii _ wr=>∃k:Nat,ii=.int .i64 k/\k<=n/\Ovr w w1 M wr a1 ab k) (fun ii _ _=>n-(intOf ii).toNat)
  case atStart=>exact⟨0,rfl,f6J,V ar⟩
  case round =>
   obtain⟨k,rfl,hk,hO⟩:=hrel;by_cases aD:k<n
   ·have F:=V U;obtain⟨ak,ck,aF,aW,aX,aY⟩:=V am k aD;have y:ab.getD k (Cn.none,undef)∈ab:=by simp[List.getD,(f6J:k<ab.length)]
    obtain⟨g,aC⟩:∃g,a1=some ⟨g,0,none⟩:=by
     rcases hO.rcd with h0 | ⟨g,t,e,_⟩
     ·omega
     ·exact⟨g,e⟩
    subst aC
    have G:Hid (∀W,Ovr w w1 M W (some ⟨g,0,none⟩) ab k->W.cell? ⟨g,k*8+4,none⟩=some (ab.getD k (Cn.none,undef)).2/\∃t,W.heap[g]?=some (.cells t 67 (0,0))/\k*8+8<=t.size):=fun W h=>by
     rcases h.rcd with h0 | ⟨g',t,e,_,_,Y,hs,hc⟩
     ·omega
     ·simp only[Option.some.injEq,Addr.mk.injEq,and_true]at e;subst e;exact⟨by rw[cell_of (j:=k*8+4) Y f6J,hc k (l0r _) f6J],t,Y,f6J⟩
    have H:Hid (∀W,Ovr w w1 M W (some ⟨g,0,none⟩) ab k->(ab.getD k (Cn.none,undef)).1.to≠[]->∃R ae t,(ab.getD k (Cn.none,undef)).2=.slice (some ⟨R,0,none⟩) (ab.getD k (Cn.none,undef)).1.to.length ae/\w.heap.size<=R/\R<w1.heap.size/\W.heap[R]?=some (.cells t 21 (0,0))/\(ab.getD k (Cn.none,undef)).1.to.length<=t.size):=fun W h=>h.lst _ y;have ay:Hid (∀W,Ovr w w1 M W (some ⟨g,0,none⟩) ab k->Ovr w w1 M (putR W g (k*8) (Cn.none,.slice none 0 0)) (some ⟨g,0,none⟩) ab (k+1)):=fun W h=>h.wipe rfl f6J _;have HO:=O hO;rw[aF]at G H;generalize hql:(ab.getD k (Cn.none,undef)).1.to.length=tl at *;have aw:=O hql;go_upto_block 2 with fail;go_cut[13] (fun _ wc=>Ovr w w1 M wc (some ⟨g,0,none⟩) ab k)
    case first =>
     go_wp2;go_loopw[13] (fun jj wd=>∃j:Nat,jj=.int .i64 j/\j<=tl/\Ovr w w1 M wd (some ⟨g,0,none⟩) ab k) (fun jj _=>tl-(intOf jj).toNat)
     case atStart=>exact⟨0,rfl,f6J,V HO⟩
     case round =>
      obtain⟨j,rfl,hj,C⟩:=hrel;obtain⟨aB,-⟩:=V G wr C;by_cases aU:j<tl
      ·obtain⟨R,ae,t,e,g1,g2,Y,aG⟩:=V H wr C (fun e=>by have:=V aw;rw[e]at this;simp at this;exact f6J);obtain⟨e1,e2,e3⟩:=Value.slice.inj e;subst e1 e3;have aR:=cell_of (j:=j) Y f6J;have aT:=x0e (j:=j) Y;have K:=O (C.item g1 g2 Y j (.int .i32 65));generalize t.getD j undef=uj at *;go_wp2
       go_roundw
       case rel=>exact⟨j+1,g2A,f6J,V K⟩
       case measure=>exact g7T
      ·have S:=O C;go_wp2
       go_meet
       case rel=>exact V S
    case rest =>
     obtain⟨aB,t,Y,aG⟩:=V G wc hcut;have HW:=O (V ay wc hcut);have y0:=cell_of (j:=k*8) Y f6J;have y1:=cell_of (j:=k*8+1) Y f6J;have y2:=cell_of (j:=k*8+2) Y f6J;have y3:=cell_of (j:=k*8+3) Y f6J;have y5:=cell_of (j:=k*8+5) Y f6J;have y6:=cell_of (j:=k*8+6) Y f6J;have y7:=cell_of (j:=k*8+7) Y f6J;have fz:=fun j=>x0e (j:=j) Y;have aS:∀W a m,(store a (.float .f64 0) m).run prog W=stored prog W a (.float .f64 0) m:=fun W a m=>run_store prog W a _ m rfl;generalize t.getD (k*8) undef=uy0,t.getD (k*8+1) undef=uy1,t.getD (k*8+2) undef=uy2,t.getD (k*8+3) undef=uy3,t.getD (k*8+5) undef=uy5,t.getD (k*8+6) undef=uy6,t.getD (k*8+7) undef=ba at *;go_wp2;exact⟨⟨k+1,g2A,f6J,V HW⟩,by simp[intOf];exact f6J⟩
   ·obtain rfl:k=n:=f6J;have HF:=O (V af wr k hO);go_wp2;go_ret3;exact V HF
namespace Cn
def mk3(k lo hi:Int):Rec:=⟨k,lo,hi,0,[],⟨#[]⟩,⟨#[]⟩,0⟩
def x2l:List Rec:=[mk3 1 97 122,mk3 1 48 57,mk3 1 45 46,⟨4,65,90,1,[97],⟨#[]⟩,⟨#[]⟩,0⟩,mk3 1 224 224,mk3 1 768 768,⟨7,224,224,0,[97,768],⟨#[]⟩,⟨#[]⟩,0⟩,⟨6,768,768,230,[],⟨#[]⟩,⟨#[]⟩,0⟩,mk3 11 768 768,⟨14,224,224,0,[],⟨#[]⟩,⟨#[]⟩,4591870180066957722⟩]
theorem y0z:check x2l=(0,0):=M3j
end Cn
def lpsA:List (Rec×Value):=[(Cn.mk3 1 97 122,.slice none 0 0),(Cn.mk3 1 48 57,.slice none 0 0),(Cn.mk3 1 45 46,.slice none 0 0)]
def lpsB(n:Nat):List (Rec×Value):=[(⟨4,65,90,1,[97],⟨#[]⟩,⟨#[]⟩,0⟩,.slice (some ⟨n,0,none⟩) 1 1),(Cn.mk3 1 224 224,.slice none 0 0),(Cn.mk3 1 768 768,.slice none 0 0)]
def lpsC(n:Nat):List (Rec×Value):=[(⟨7,224,224,0,[97,768],⟨#[]⟩,⟨#[]⟩,0⟩,.slice (some ⟨n,0,none⟩) 2 2),(⟨6,768,768,230,[],⟨#[]⟩,⟨#[]⟩,0⟩,.slice none 0 0),(Cn.mk3 11 768 768,.slice none 0 0),(⟨14,224,224,0,[],⟨#[]⟩,⟨#[]⟩,4591870180066957722⟩,.slice none 0 0)]
theorem x9q(w:World) B(l:B<=w.heap.size) c(T:-2147483648<=c/\c<=2147483647):Ok .i32 21 (w.alloc (.cells #[.int .i32 c] 21)) B (.slice (some ⟨w.heap.size,0,none⟩) 1 1) [c]:=by
 refine⟨fun z o=>by simp at o;subst o;exact x0V T,M7K,M7K,.inr ⟨w.heap.size,1,#[.int .i32 c],rfl,l,?_,l0r _,by unfold maxLen;exact M7K,M7K,M7K⟩⟩;exact R0n
theorem z5X(W:World) B(l:B<=W.heap.size)(ps:List (Rec×Value)) n(E:ps.length=n)(X:n<=100):(W.alloc (.cells (rcells ps).toArray 67)).ownsRow B 67 8 (.slice (some ⟨W.heap.size,0,none⟩) n n) n (rcells ps):=by
 subst E;refine⟨x1k ps,.inr ⟨W.heap.size,ps.length,(rcells ps).toArray,rfl,l,?_,l0r _,T7W,by rw[List.size_toArray,x1k],?_⟩⟩
 ·show(W.heap.push _)[W.heap.size]?=_;simp
 ·exact List.take_of_length_le (by rw[x1k];exact l0r _)
theorem y3O(W:World)(ps:List (Rec×Value)):∀j u,(rcells ps)[j]?=some u->(W.alloc (.cells (rcells ps).toArray 67)).cell? ((⟨W.heap.size,0,none⟩:Addr).add j)=some u:=by
 intro j u h
 have Y:(W.alloc (.cells (rcells ps).toArray 67)).heap[W.heap.size]?=some (.cells (rcells ps).toArray 67 (0,0)):=by
  show(W.heap.push _)[W.heap.size]?=_;simp
 rw[addr_add,Nat.zero_add];have K:j<(rcells ps).length:=(List.getElem?_eq_some_iff.1 h).1;rw[cell_of (j:=j) Y R6d];rw[Array.getD_eq_getD_getElem?,List.getElem?_toArray,h];rfl
theorem x2o(ps A:List (Rec×Value)):rcells ps++rcells A=rcells (ps++A):=by unfold rcells;rw[List.flatMap_append]
theorem y1c{W1 W2 B v v'}{ps A:List (Rec×Value)}(E:Rown W1 B v ps)(m:∀q∈A,Ok .i32 21 W1 B q.2 q.1.to)(L:W2.ownsRow B 67 8 v' (ps.length+A.length) (rcells ps++rcells A))(C:W1.grownBy W2 v.ownBlock):Rown W2 B v' (ps++A):=by
 refine⟨by rw[List.length_append,<- x2o];exact L,fun p hp=>?_⟩;have S:∀p:Rec×Value,Ok .i32 21 W1 B p.2 p.1.to->Ok .i32 21 W2 B p.2 p.1.to:=fun p y=>y.keep fun g h=>C.block g (y.2.2.lt g h).2 (fun e=>x0P y.2.2 E.1 e8M h e.symm);rcases List.mem_append.1 hp with hp | hp
 ·exact S p (E.2 p hp)
 ·exact S p (m p hp)
theorem y9s(ps:List (Rec×Value))(h:∀p∈ps,p.2.oneCell'=true):∀u∈rcells ps,u.oneCell'=true:=by
 intro u A;obtain⟨p,L,A⟩:=List.mem_flatMap.1 A;exact x6W p.1 (h p L) u A
theorem Rown.alloc9{W B v}{ps:List (Rec×Value)}(h:Rown W B v ps) o:Rown (W.alloc o) B v ps:=h.on7 ((b0r).alloc (l0r _) o)
theorem y5u w:Calls prog 8 #[] w (x6m w Cn.x2l):=by
 obtain⟨i1,hj,aj,d,J⟩:=info_parts Tryz.info67;obtain⟨S,I⟩:∃S,w.alloc (.cells (rcells lpsA).toArray 67)=S:=⟨_,rfl⟩
 have hA:Rown S w.heap.size (.slice (some ⟨w.heap.size,0,none⟩) 3 3) lpsA:=by
  rw[<- I];refine⟨z5X w w.heap.size (l0r _) lpsA 3 rfl f6J,fun p L=>?_⟩;simp only[lpsA,List.mem_cons,List.mem_nil_iff,or_false]at L;rcases L with rfl | rfl | rfl<;>exact Ok.nil _ _ _ _
 have az:Bw w S:=(by rw[<- I];exact(b0r).alloc (l0r _) _);have aI:S.heap.size=w.heap.size+1:=(by rw[<- I];exact M7O);obtain⟨N,P⟩:∃N,S.alloc (.cells #[.int .i32 97] 21)=N:=⟨_,rfl⟩;have aA:Bw w N:=(by rw[<- P];exact az.alloc f6J _);have l:N.heap.size=w.heap.size+2:=by rw[<- P];exact P8P
 have aD:Ok .i32 21 N w.heap.size (.slice (some ⟨w.heap.size+1,0,none⟩) 1 1) [97]:=by
  have:=x9q S w.heap.size f6J 97 f6J;rw[P,aI]at this;exact this
 have ay:Rown N w.heap.size (.slice (some ⟨w.heap.size,0,none⟩) 3 3) lpsA:=(by rw[<- P];exact hA.alloc9 _);obtain⟨T,F⟩:∃T,N.alloc (.cells (rcells (lpsB (w.heap.size+1))).toArray 67)=T:=⟨_,rfl⟩;have K:Bw w T:=(by rw[<- F];exact aA.alloc f6J _);have aM:T.heap.size=w.heap.size+3:=(by rw[<- F];exact P8P);have A:=y3O N (lpsB (w.heap.size+1));rw[F,l]at A;have t:Rown T w.heap.size (.slice (some ⟨w.heap.size,0,none⟩) 3 3) lpsA:=by rw[<- F];exact ay.alloc9 _
 have aG:∀q∈lpsB (w.heap.size+1),Ok .i32 21 T w.heap.size q.2 q.1.to:=fun q hq=>by
  simp only[lpsB,List.mem_cons,List.mem_nil_iff,or_false]at hq;rcases hq with rfl | rfl | rfl
  ·rw[<- F];exact aD.below ((b0r).alloc (l0r _) _)
  ·exact n7g
  ·exact n7g
 have i:=y9s (lpsB (w.heap.size+1)) (fun p L=>by
  simp only[lpsB,List.mem_cons,List.mem_nil_iff,or_false]at L
  rcases L with rfl | rfl | rfl<;>rfl)
 have ab:=O t;have G:Hid (T.ownsRow w.heap.size 67 8 (.slice (some ⟨w.heap.size,0,none⟩) 3 3) 3 (rcells lpsA)):=t.1;have ar:=O aG;have D:=O A;have c:=O i;have aq:=O K;replace I:w.alloc (.cells #[.int .i64 1,.int .i64 97,.int .i64 122,.int .i64 0,.slice none 0 0,.string ⟨#[]⟩,.string ⟨#[]⟩,.float .f64 0,.int .i64 1,.int .i64 48,.int .i64 57,.int .i64 0,.slice none 0 0,.string ⟨#[]⟩,.string ⟨#[]⟩,.float .f64 0,.int .i64 1,.int .i64 45,.int .i64 46,.int .i64 0,.slice none 0 0,.string ⟨#[]⟩,.string ⟨#[]⟩,.float .f64 0] 67)=S:=I;replace F:N.alloc (.cells #[.int .i64 4,.int .i64 65,.int .i64 90,.int .i64 1,.slice (some ⟨w.heap.size+1,0,none⟩) 1 1,.string ⟨#[]⟩,.string ⟨#[]⟩,.float .f64 0,.int .i64 1,.int .i64 224,.int .i64 224,.int .i64 0,.slice none 0 0,.string ⟨#[]⟩,.string ⟨#[]⟩,.float .f64 0,.int .i64 1,.int .i64 768,.int .i64 768,.int .i64 0,.slice none 0 0,.string ⟨#[]⟩,.string ⟨#[]⟩,.float .f64 0] 67)=T:=F;go_enter func8,ntmps8;go_wp2_with(at_builtin;refine wpList_append_own _ rfl (.tmp 6) (.tmp 11) 23 rfl w.heap.size 67 i1 (.agg #[.int .i64 0,.int .i64 0,.int .i64 0,.int .i64 0,.slice none 0 0,.string ⟨#[]⟩,.string ⟨#[]⟩,.float .f64 0]) 8 96 underlying23 hj aj d J rfl e8P _ _ _ rfl (V G) ⟨w.heap.size+2,0,none⟩ 3 3 (rcells (lpsB (w.heap.size+1))) rfl (by rw[x1k];rfl) (V D) (V c) T7X f6J f6J ?_);intro am Z y s _;have ae:Rown Z w.heap.size am (lpsA++lpsB (w.heap.size+1)):=y1c (V ab) (V ar) y s;have E:Bw w Z:=(V aq).grown s f6J (fun k hk=>((V ab).1.lt k hk).1);have ai:=E.size
 have C:∃g cap,am=.slice (some ⟨g,0,none⟩) 6 cap:=by
  rcases y.2 with⟨_,h0⟩ | ⟨g,cap,aK,e,_⟩
  ·omega
  ·exact⟨g,cap,e⟩
 obtain⟨r,a,rfl⟩:=C;obtain⟨m,hm⟩:∃m,Z.heap.size=m:=⟨_,rfl⟩;obtain⟨U,Q⟩:∃U,Z.alloc (.cells #[.int .i32 97,.int .i32 768] 21)=U:=⟨_,rfl⟩;have aB:Bw w U:=(by rw[<- Q];exact E.alloc f6J _);have aJ:U.heap.size=m+1:=by rw[<- Q];exact P8P
 have aF:Ok .i32 21 U w.heap.size (.slice (some ⟨m,0,none⟩) 2 2) [97,768]:=by
  have:=(ok_two Z 97 768 f6J f6J).lower ai;rw[Q,hm]at this;exact this
 obtain⟨X,H⟩:∃X,U.alloc (.cells (rcells (lpsC m)).toArray 67)=X:=⟨_,rfl⟩;have aC:Bw w X:=(by rw[<- H];exact aB.alloc f6J _);have aN:X.heap.size=m+2:=(by rw[<- H];exact P8P);have A:=y3O U (lpsC m);rw[H,aJ]at A;have z:Rown X w.heap.size (.slice (some ⟨r,0,none⟩) 6 a) (lpsA++lpsB (w.heap.size+1)):=by rw[<- H,<- Q];exact(ae.alloc9 _).alloc9 _
 have aH:∀q∈lpsC m,Ok .i32 21 X w.heap.size q.2 q.1.to:=fun q hq=>by
  simp only[lpsC,List.mem_cons,List.mem_nil_iff,or_false]at hq;rcases hq with rfl | rfl | rfl | rfl
  ·rw[<- H];exact aF.below ((b0r).alloc (l0r _) _)
  ·exact n7g
  ·exact n7g
  ·exact n7g
 have j:=y9s (lpsC m) (fun p L=>by
  simp only[lpsC,List.mem_cons,List.mem_nil_iff,or_false]at L
  rcases L with rfl | rfl | rfl | rfl<;>rfl)
 have M:Hid (X.ownsRow w.heap.size 67 8 (.slice (some ⟨r,0,none⟩) 6 a) 6 (rcells (lpsA++lpsB (w.heap.size+1)))):=z.1;have u:=O z;have aw:=O aH;have D:=O A;have f:=O j;have Y:=O aC;have aL:w.heap.size<=m:=f6J;replace H:U.alloc (.cells #[.int .i64 7,.int .i64 224,.int .i64 224,.int .i64 0,.slice (some ⟨m,0,none⟩) 2 2,.string ⟨#[]⟩,.string ⟨#[]⟩,.float .f64 0,.int .i64 6,.int .i64 768,.int .i64 768,.int .i64 230,.slice none 0 0,.string ⟨#[]⟩,.string ⟨#[]⟩,.float .f64 0,.int .i64 11,.int .i64 768,.int .i64 768,.int .i64 0,.slice none 0 0,.string ⟨#[]⟩,.string ⟨#[]⟩,.float .f64 0,.int .i64 14,.int .i64 224,.int .i64 224,.int .i64 0,.slice none 0 0,.string ⟨#[]⟩,.string ⟨#[]⟩,.float .f64 4591870180066957722] 67)=X:=H;go_wp2_with(at_builtin;refine wpList_append_own _ rfl (.tmp 13) (.tmp 19) 23 rfl w.heap.size 67 i1 (.agg #[.int .i64 0,.int .i64 0,.int .i64 0,.int .i64 0,.slice none 0 0,.string ⟨#[]⟩,.string ⟨#[]⟩,.float .f64 0]) 8 96 underlying23 hj aj d J rfl e8P _ _ _ rfl (V M) ⟨m+1,0,none⟩ 4 4 (rcells (lpsC m)) rfl (by rw[x1k];rfl) (V D) (V f) T7X f6J f6J ?_);intro n o R b _;have af:Rown o w.heap.size n (lpsA++lpsB (w.heap.size+1)++lpsC m):=y1c (V u) (V aw) R b;have ag:Bw w o:=(V Y).grown b f6J (fun k hk=>((V u).1.lt k hk).1);have HF:Hid (x6m w Cn.x2l (.returned n) o):=⟨n,_,rfl,rfl,af,ag⟩;exact I7o
