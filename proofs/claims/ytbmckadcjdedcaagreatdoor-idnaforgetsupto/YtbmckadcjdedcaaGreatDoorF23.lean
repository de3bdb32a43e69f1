import Derived.Test.YtbmckadcjdedcaaGreatDoorF21
import Derived.Test.YtbmckadcjdedcaaGreatDoorF24
import Derived.Test.YtbmckadcjdedcaaGreatDoorF27
import Derived.Test.YtbmckadcjdedcaaGreatDoorF28
import Derived.Test.YtbmckadcjdedcaaGreatDoorF29
import Derived.Test.YtbmckadcjdedcaaGreatDoorF30
import Derived.Test.YtbmckadcjdedcaaGreatDoorF31
import Derived.Test.YtbmckadcjdedcaaGreatDoorF32
import Derived.Test.YtbmckadcjdedcaaGreatDoorF33
import Derived.Test.YtbmckadcjdedcaaGreatDoorF35
set_option maxHeartbeats 8000000
set_option maxRecDepth 100000
namespace Go.Proofs.YtbmckadcjdedcaaGreatDoor
open Go.Proofs.Tryz
open Go.RowKit
open Ti
section
variable{p:Prop}
theorem i8U(h:p:=by simp only[Bool.and_eq_true]at D;have:=x5m D.1.2;omega):p:=h
theorem g2b(h:p:=by have:=of_decide_eq_false h;exact f6J):p:=h
theorem g3V(h:p:=by simp only[Bool.and_eq_true]at D;have:=x5m D.1;omega):p:=h
theorem W4C(h:p:=by go_wp2_with(go_at_call 146;refine(V K).mono ?_;rintro e G ⟨rfl,A,rfl⟩;clear K);go_ret;exact⟨rfl,A,rfl⟩):p:=h
theorem f4w(h:p:=by
 rcases u4.1.2 with⟨e,_⟩|⟨_,_,_,e,_⟩
 ·exact⟨_,_,_,e⟩
 ·exact⟨_,_,_,e⟩):p:=h
end
theorem x7M v rs kind w(hg:Glob w)(hv:Rcs w v rs)(hk:I64 kind)(bZ:∀r∈Cn.famOf (Cn.fam kind) rs,Cn.right r=0/\r.kind≠15)(hl:(Cn.famOf (Cn.fam kind) rs).length<=4096)(bI:∀m:List Tri.Rg,m.Perm (Cn.rangesA (fun i _=>(i:Int)) 1 (Cn.famOf (Cn.fam kind) rs))->(m.Pairwise fun x y=>Tri.lo x<=Tri.lo y)->Tri.Val 0 m):Calls prog 87 #[v,.int .i64 kind] w (SpkB w (Cn.famOf (Cn.fam kind) rs)):=by
 obtain⟨i0,bU,cC,cD,cE⟩:=info_parts Tryz.info259;obtain⟨i1,bV,cx,cz,cB⟩:=info_parts Tryz.info67;obtain⟨W1,W2,cS,bS,aD,aO,cf,bm⟩:=z6N w;have K1:=O (x5q v rs kind W2 (hg.on aD) (hv.below aD) hk);unfold FamB at K1
 have bw:W2.heap[w.heap.size+1]?=some (.cells #[.int .i64 0,.int .i64 0,.int .i64 0,.int .i64 0,.slice none 0 0,.string ⟨#[]⟩,.string ⟨#[]⟩,.float .f64 0] 67 (0,0)):=by
  rw[<- bS,<- aO];show(W1.heap.push _)[W1.heap.size]?=_;simp
 obtain⟨ao,cap,cw,_,_⟩:=hv.shape;generalize Cn.famOf (Cn.fam kind) rs=fs at *;have aB:=O bZ;have aq:=O bI;have bM:=O bm;have bL:=O bw;have cQ:=O aD;have aX:=O cf;subst cw;go_enter func87,ntmps87;go_wp2_with fail;refine(V K1).mono ?_;rintro e1 w1 ⟨v1,qs,rfl,bD,hR,aH⟩;have cW:qs.length=fs.length:=(by rw[<- bD,List.length_map]);have q:Rcs w1 v1 fs:=(by rw[<- bD];exact hR.rsx.rcs aH f6J);have T:=O (V bM w1 aH)
 have aI:w1.heap[w.heap.size+1]?=some (.cells #[.int .i64 0,.int .i64 0,.int .i64 0,.int .i64 0,.slice none 0 0,.string ⟨#[]⟩,.string ⟨#[]⟩,.float .f64 0] 67 (0,0)):=by
  rw[aH.block _ (by have:=V aX;exact f6J)];exact V bL
 have aC:Hid (∀k,(Cn.rangesA (fun i _=>(i:Int)) 1 (fs.take k)).length<=4563402752):=fun k=>by
  have h1:=Cn.x3T (g:=fun i _=>(i:Int)) (fs.take k) 1 (fun r hr=>V aB r (List.mem_of_mem_take hr));have h2:(fs.take k).length<=fs.length:=List.length_take_le' _ _;omega
 have am:Hid (∀k,k<fs.length->∃b P cap va,v1=.slice (some ⟨b,P,none⟩) fs.length cap/\RecFit (fs.getD k Cn.none)/\∀W:World,(∀g,g<w1.heap.size->g≠w.heap.size+1->W.heap[g]?=w1.heap[g]?)->(W.cell? ⟨b,P+k*8,none⟩=some (.int .i64 (fs.getD k Cn.none).kind)/\W.cell? ⟨b,P+k*8+1,none⟩=some (.int .i64 (fs.getD k Cn.none).lo)/\W.cell? ⟨b,P+k*8+2,none⟩=some (.int .i64 (fs.getD k Cn.none).hi)/\W.cell? ⟨b,P+k*8+3,none⟩=some (.int .i64 (fs.getD k Cn.none).n)/\W.cell? ⟨b,P+k*8+4,none⟩=some va/\W.cell? ⟨b,P+k*8+5,none⟩=some (.string (fs.getD k Cn.none).name)/\W.cell? ⟨b,P+k*8+6,none⟩=some (.string (fs.getD k Cn.none).other)/\W.cell? ⟨b,P+k*8+7,none⟩=some (.float .f64 (fs.getD k Cn.none).wt))/\Sk .i32 W va (fs.getD k Cn.none).to):=fun k hk=>by
  obtain⟨b,P,cap,he,_,_,hc⟩:=q.place f6J;have cT:W2.heap.size<=b:=(hR.1.lt b (by rw[he];rfl)).1;have bT:b≠w.heap.size+1:=(by have:=V aX;exact f6J);obtain⟨y0,y1,y2,y3,⟨va,y4,Z⟩,y5,y6,y7⟩:=hc k hk;refine⟨b,P,cap,va,he,q.fit hk,fun W hW=>?_⟩;have e:∀j,W.cell? ⟨b,j,none⟩=w1.cell? ⟨b,j,none⟩:=fun j=>World.cell?_of_block (hW b (x0a y0) bT);exact⟨⟨by rw[e];exact y0,by rw[e];exact y1,by rw[e];exact y2,by rw[e];exact y3,by rw[e];exact y4,by rw[e];exact y5,by rw[e];exact y6,by rw[e];exact y7⟩,z9C aI hW Z⟩
 have ba:Hid (∀k,k<fs.length->Cn.rangesA (fun i _=>(i:Int)) 1 (fs.take (k+1))=Cn.rangesA (fun i _=>(i:Int)) 1 (fs.take k)++Cn.spoken (fs.getD k Cn.none) ((1+k:Nat):Int)/\fs.take (k+1)=fs.take k++[fs.getD k Cn.none]):=fun k hk=>by
  have e:fs.take (k+1)=fs.take k++[fs.getD k Cn.none]:=by
   rw[List.take_add_one];exact E9b
  rw[e,Cn.x3l,List.length_take,Nat.min_eq_left f6J];exact⟨rfl,rfl⟩
 obtain⟨cR,cG,bJ,_,_⟩:=q.shape;subst bJ;go_wp2;go_loopw[5,6,8,15] (fun lv rv _ iv wr=>∃(k:Nat) (ps:List (Rec×Value)),iv=.int .i64 k/\k<=fs.length/\ps.map (·.1)=Cn.none::fs.take k/\ps.length=k+1/\(∃lo cap,lv=.slice lo (k+1) cap/\cap<=9223372036854775807)/\Spst w w1 wr rv lv (Cn.rangesA (fun i _=>(i:Int)) 1 (fs.take k)) ps) (fun _ _ _ iv _=>fs.length-(intOf iv).toNat)
 case atStart=>exact⟨0,[(Cn.none,.slice none 0 0)],rfl,f6J,rfl,rfl,⟨_,_,by first| rfl|(rw[aO];rfl),f6J⟩,by first| exact V T|(rw[aO];exact V T)⟩
 case round =>
  obtain⟨k,ps,rfl,hk,aL,d,⟨ab,M,rfl,cU⟩,z⟩:=hrel;by_cases aK:k<fs.length
  ·obtain⟨b,P,cF,va,he,az,bj⟩:=V am k aK;obtain⟨q1,q2,q3⟩:=Value.slice.inj he;subst q1;obtain⟨F,aM⟩:=V aB (fs.getD k Cn.none) (by simp[List.getD,aK]);obtain⟨be,bQ⟩:=V ba k aK;have bK:=V aC k;obtain⟨⟨x0,x1,x2,x3,x4,x5,x6,x7⟩,Z⟩:=bj wr z.old;obtain⟨ae,L,rfl,_,_⟩:=Z.shape;generalize fs.getD k Cn.none=r at *;have ci:Fi (((1+k:Nat):Int)):=⟨f6J,f6J⟩;have bE:=y1u r ((1+k:Nat):Int) F aM;have cg:=Cn.x5h F aM ((1+k:Nat):Int);have bX:(((1+k:Nat):Int))=(k:Int)+1:=f6J;have aw:=z.bel;obtain⟨V1,aG⟩:∃V1,wr.alloc (.cells #[.int .i64 r.kind,.int .i64 r.lo,.int .i64 r.hi,.int .i64 r.n,.slice ae r.to.length L,.string r.name,.string r.other,.float .f64 r.wt] 67)=V1:=⟨_,rfl⟩;have bu:Bw wr V1:=by rw[<- aG];exact(b0r).alloc (l0r _) _
   have E:V1.heap[wr.heap.size]?=some (.cells #[.int .i64 r.kind,.int .i64 r.lo,.int .i64 r.hi,.int .i64 r.n,.slice ae r.to.length L,.string r.name,.string r.other,.float .f64 r.wt] 67 (0,0)):=by
    rw[<- aG];exact s6Q
   have cX:V1.heap.size=wr.heap.size+1:=(by rw[<- aG];exact World.size_alloc _ _);have bR:=z.below bu;have KS:=O (x7o r (.slice ae r.to.length L) _ V1 az (Z.below bu) F aM ci);unfold recV at KS;rw[bX]at KS be bE cg;have KC:Hid (∀W,(∀g,g<w1.heap.size->g≠w.heap.size+1->W.heap[g]?=w1.heap[g]?)->Calls prog 52 #[.slice ae r.to.length L] W (x0j W r.to)):=fun W h=>x2Y _ r.to W (bj W h).2 az.len;unfold x0j at KC;have aT:Hid (∀g,(Value.slice ab (k+1) M).ownBlock=some g->g<wr.heap.size):=fun g Q=>(z.rcs.1.lt g Q).2;have aW:Hid (∀p∈ps,∀g,p.2.ownBlock=some g->g<wr.heap.size):=fun p hp g Q=>((z.rcs.2 p hp).2.2.lt g Q).2;have bN:Hid (∀g,u6.ownBlock=some g->g<wr.heap.size):=fun g Q=>(z.rng.2.2.lt g Q).2;obtain⟨z0,z1,z2,z3,z4,z5,z6,z7⟩:=x4J E;have cV:∀W a m,(store a (.float .f64 r.wt) m).run prog W=stored prog W a (.float .f64 r.wt) m:=fun W a m=>run_store prog W a _ m rfl;have bO:=O bR;have aP:=O E;have cO:=z.sz;have cJ:=z.s1;generalize hys:Cn.spoken r ((k:Int)+1)=ys,Cn.rangesA (fun i _=>(i:Int)) 1 (fs.take k)=xs at *;obtain⟨K,lo,hi,A,f,c,R,J⟩:=r;simp only at *;go_wp2_with fail;refine(V KS).mono ?_;rintro e3 w3 ⟨v3,rfl,bn,s⟩;obtain⟨g3,bh,rfl,bF⟩:=y9C bn bE;have aF:=(V bO).below s;have cL:=aF.sz;have cH:=s.size;have HM:=O aF.rng.2.2;have aZ:=O bF;have aV:=O (Ti.x4X ys);have aA:Hid (∀v4 w4,w4.ownsRow w1.heap.size 259 3 v4 (xs.length+ys.length) (Ti.rcells xs++Ti.rcells ys)->w3.grownBy w4 u6.ownBlock->Spst w w1 w4 v4 (.slice ab (k+1) M) (xs++ys) ps):=fun v4 w4 h1 h2=>aF.ranges bn.1 f6J h1 h2;have aQ:Hid (w3.heap[wr.heap.size]?=some (.cells #[.int .i64 K,.int .i64 lo,.int .i64 hi,.int .i64 A,.slice ae f.length L,.string c,.string R,.float .f64 J] 67 (0,0))):=(s.block _ f6J).trans (V aP);go_wp2_with(at_builtin;refine wpList_append_own _ rfl (.tmp 19) (.tmp 23) 203 rfl w1.heap.size 259 i0 (.agg #[.int .i64 0,.int .i64 0,.int .i64 0]) 3 24 underlying203 bU cC cD cE rfl e8P _ _ _ rfl (V HM) ⟨g3,0,none⟩ ys.length bh (Ti.rcells ys) rfl (by rw[Ti.x1R]) (V aZ) (V aV) T7X f6J f6J ?_);intro v4 w4 cd aJ _;have bp:=V aA v4 w4 cd aJ
   have G:w4.heap[wr.heap.size]?=some (.cells #[.int .i64 K,.int .i64 lo,.int .i64 hi,.int .i64 A,.slice ae f.length L,.string c,.string R,.float .f64 J] 67 (0,0)):=by
    rw[aJ.block _ f6J (fun e=>by have:=V bN _ e.symm;exact f6J)];exact V aQ
   have cM:=aJ.size;have z4:=(x4J G).2.2.2.2.1;have K5:=O (V KC w4 bp.old);have aY:=O bp;have aj:=O G;go_wp2_with fail;refine(V K5).mono ?_;rintro e5 w5 ⟨v5,rfl,C,S⟩;obtain⟨l,c5,cj,_,_⟩:=C.sk.shape;subst cj;have cN:=S.size;have ag:=(V aY).below S;have H:w5.heap[wr.heap.size]?=some (.cells #[.int .i64 K,.int .i64 lo,.int .i64 hi,.int .i64 A,.slice ae f.length L,.string c,.string R,.float .f64 J] 67 (0,0)):=(S.block _ f6J).trans (V aj);have y4:=(x4J H).2.2.2.2.1;have f4:=x0e (j:=4) H;obtain⟨D,N⟩:∃D,w5.setCell ⟨wr.heap.size,4,none⟩ (.slice l f.length c5)=D:=⟨_,rfl⟩
   have ay:D.heap[wr.heap.size]?=some (.cells #[.int .i64 K,.int .i64 lo,.int .i64 hi,.int .i64 A,.slice l f.length c5,.string c,.string R,.float .f64 J] 67 (0,0)):=by
    rw[<- N,x0f H];rfl
   have bG:D.heap.size=w5.heap.size:=by rw[<- N];exact x1a _ _ _ _
   have ai:Spst w w1 D v4 (.slice ab (k+1) M) (xs++ys) ps:=by
    refine ag.keep (B:=wr.heap.size) f6J (by rw[<- N];exact x0d ag.bel aw.size _) f6J (fun g _ bY=>by rw[<- N];exact x0g _ bY) (z0x ag.rng.2.2 H e8P) (fun e=>by have:=V aT _ e;exact f6J) (fun p hp e=>by have:=V aW p hp _ e;exact f6J)
   have bH:Ok .i32 21 D w.heap.size (.slice l f.length c5) f:=by
    refine(C.lower (by have:=aw.size;exact f6J)).keep fun g Q=>?_;rw[<- N];exact x0g _ (fun e=>by have:=(C.2.2.lt g Q).1;exact f6J)
   obtain⟨s0,s1,s2,s3,s4,s5,s6,s7⟩:=x4J ay;have aU:Hid (∀o,(D.alloc o).ownsRow w.heap.size 67 8 (.slice ab (k+1) M) (k+1) (rcells ps)):=fun o=>(by have:=ai.rcs.1.alloc o;rw[d]at this;exact this);have t:Hid (∀j u,(x0z (⟨K,lo,hi,A,f,c,R,J⟩,.slice l f.length c5))[j]?=some u->(D.alloc (.cells #[.int .i64 K,.int .i64 lo,.int .i64 hi,.int .i64 A,.slice l f.length c5,.string c,.string R,.float .f64 J] 67)).cell? ((⟨D.heap.size,0,none⟩:Addr).add j)=some u):=x5Z D D.heap.size rfl ⟨K,lo,hi,A,f,c,R,J⟩ _;have af:=O (x6W ⟨K,lo,hi,A,f,c,R,J⟩ (vt:=.slice l f.length c5) rfl)
   have I:Hid (∀o gg U w8,w8.ownsRow w.heap.size 67 8 (.slice (some ⟨gg,0,none⟩) (k+1+1) U) (k+1+1) (rcells ps++x0z (⟨K,lo,hi,A,f,c,R,J⟩,.slice l f.length c5))->(D.alloc o).grownBy w8 (Value.slice ab (k+1) M).ownBlock->((Value.slice ab (k+1) M).ownBlock=some gg\/gg=D.heap.size+1)->Spst w w1 w8 v4 (.slice (some ⟨gg,0,none⟩) (k+1+1) U) (xs++ys) (ps++[(⟨K,lo,hi,A,f,c,R,J⟩,.slice l f.length c5)])):=fun o gg U w8 h1 h2 h3=>by
    have h:=ai.more (r:=⟨K,lo,hi,A,f,c,R,J⟩) bH (gg:=gg) (cap:=U) (by rw[d];exact h1) h2 h3;rw[d]at h;exact h
   have cK:=ai.bel.size;clear K5 C S ag H ay ai bH aY aj aT aW bG;go_wp2_with(at_builtin;refine wpList_append_lies _ rfl (.tmp 29) (.tmp 31) 23 rfl w.heap.size 67 i1 (.agg #[.int .i64 0,.int .i64 0,.int .i64 0,.int .i64 0,.slice none 0 0,.string ⟨#[]⟩,.string ⟨#[]⟩,.float .f64 0]) 8 96 underlying23 bV cx cz cB rfl e8P _ _ _ rfl (V aU _) ⟨D.heap.size,0,none⟩ 1 1 (x0z (⟨K,lo,hi,A,f,c,R,J⟩,.slice l f.length c5)) rfl rfl (V t) (V af) f6J T7X f6J P8P (D.heap.size+1) (by simp) ?_);intro gg U w8 aN bB ar cI;have bt:=V I _ gg U w8 aN bB ar
   have X:U<=9223372036854775807:=by
    rcases aN.2 with⟨h0,_⟩|⟨_,_,_,h0,_,_,_,h1,_⟩
    ·cases h0
    ·obtain⟨_,_,e3⟩:=Value.slice.inj h0;rw[e3];unfold maxLen at h1;omega
   have bP:=O bt;clear aU t af I aN bB ar bt s0 s1 s2 s3 s4 s5 s6 s7 y4 f4 z4;go_wp2
   go_roundw
   case rel=>exact⟨k+1,ps++[(⟨K,lo,hi,A,f,c,R,J⟩,.slice l f.length c5)],g2D,f6J,by rw[List.map_append,aL,bQ];rfl,by rw[List.length_append,d];rfl,⟨_,_,rfl,X⟩,by rw[be];exact V bP⟩
   case measure=>exact g7W
  ·obtain rfl:k=fs.length:=f6J;rw[List.take_of_length_le (l0r _)]at z aL;have bK:=V aC fs.length;rw[List.take_of_length_le (l0r _)]at bK;have KB:=O (y4N _ wr u6 _ z.rng f6J (V aq));unfold y6L at KB;have HS:=O z;obtain⟨ro,cP,ce,_,_⟩:=z.rng.sr.shape;subst ce;clear z am ba aB aC aq;go_wp2_with fail;refine(V KB).mono ?_;rintro e9 w9 ⟨a,m,rfl,p1,p2,hT,bC⟩;obtain⟨F1,F2,F3,F4,F5⟩:=(V HS).fin bC hT;have y0:=cell_of (j:=0) F1 (by show 0<2;exact f6J);have y1:=cell_of (j:=1) F1 w2h;have f0:=fun j=>x0e (j:=j) F1;have aR:=O F2;have HF:SpkB w fs (.returned (.agg #[.pointer (some a),.slice ab (fs.length+1) M])) _:=⟨a,m,_,ps,rfl,p1,p2,F3,F4,aL,F5⟩;have aS:=O HF;clear KB hT bC F1 F2 F3 F4 F5 HF HS p1 p2;go_wp2;have Y:=V aR;have bA:=V aS;clear aR aS y0 y1 f0;generalize(w9.setCell ⟨w.heap.size,0,none⟩ (.pointer (some a))).setCell ⟨w.heap.size,1,none⟩ (.slice ab (fs.length+1) M)=cY at *;have z0:=cell_of (j:=0) Y (by show 0<2;exact f6J);have z1:=cell_of (j:=1) Y w2h;refine bodyPost_ret (v:=.agg #[.pointer (some a),.slice ab (fs.length+1) M]) (by simp[results,Tryz.results87,go_sem,z0,z1]) rfl bA
open Ti
def TrP(W:World)(B:Nat)(v:Value)(xs:List Tri.Rg):Prop:=∃a m,v=.pointer (some a)/\m.Perm xs/\(m.Pairwise fun x y=>Tri.lo x<=Tri.lo y)/\T4 W B v m 0
def SpP(W:World)(B:Nat)(v vl:Value)(fs:List Rec):Prop:=TrP W B v (Cn.rangesA (fun i _=>(i:Int)) 1 fs)/\∃ps,Rown W B vl ps/\ps.map (·.1)=Cn.none::fs
def CoP(W:World)(B:Nat)(c1 c2:Value)(rs:List Rec):Prop:=∃r1 r2,c1=.map (some r1)/\c2=.map (some r2)/\B<=r1/\B<=r2/\GAt KP W r1 (x3B rs)/\GAt KR W r2 (secC rs)
def MiP(W:World)(B:Nat)(x:Value):Prop:=∃r,x=.map (some r)/\B<=r/\MxAt W r
theorem x6B{W:World}{g o}(h:W.heap[g]?=some o):g<W.heap.size:=by grind
section
variable {W W':World} {B B':Nat} {v vl c1 c2 x:Value} {xs:List Tri.Rg} {fs rs:List Rec}
theorem TrP.below(h:TrP W B v xs)(Y:Bw W W'):TrP W' B v xs:=by
 obtain⟨a,m,e,p,s,t⟩:=h;exact⟨a,m,e,p,s,t.below Y⟩
theorem TrP.lower(h:TrP W B v xs)(Y:B'<=B):TrP W B' v xs:=by
 obtain⟨a,m,e,p,s,t⟩:=h;exact⟨a,m,e,p,s,T4.lower t Y⟩
theorem z0g{w:World}{B B' e A n:Nat}{v us}(h:w.ownsRow B e A v n us)(Y:B'<=B):w.ownsRow B' e A v n us:=by
 refine⟨h.1,?_⟩;rcases h.2 with H|⟨g,cap,T,N,C,r⟩
 ·exact .inl H
 ·exact .inr ⟨g,cap,T,N,f6J,r⟩
theorem SpP.below(h:SpP W B v vl fs)(Y:Bw W W'):SpP W' B v vl fs:=by
 obtain⟨t,ps,u,e⟩:=h;exact⟨t.below Y,ps,⟨x0x u.1 fun g C=>Y.block g (u.1.lt g C).2,fun p L=>(u.2 p L).below Y⟩,e⟩
theorem SpP.lower(h:SpP W B v vl fs)(Y:B'<=B):SpP W B' v vl fs:=by
 obtain⟨t,ps,u,e⟩:=h;exact⟨t.lower Y,ps,⟨z0g u.1 Y,fun p L=>(u.2 p L).lower Y⟩,e⟩
theorem GAt.below{K:Value->Prop}{r}{c:Value->Option Value}(h:GAt K W r c)(Y:Bw W W'):GAt K W' r c:=by
 obtain⟨A,z,Z,D⟩:=h;exact⟨A,z,by rw[Y.block r (x6B Z)];exact Z,D⟩
theorem CoP.below(h:CoP W B c1 c2 rs)(Y:Bw W W'):CoP W' B c1 c2 rs:=by
 obtain⟨S,r2,P,f,b1,m,J,I⟩:=h;exact⟨S,r2,P,f,b1,m,J.below Y,I.below Y⟩
theorem CoP.lower(h:CoP W B c1 c2 rs)(Y:B'<=B):CoP W B' c1 c2 rs:=by
 obtain⟨S,r2,P,f,b1,m,J,I⟩:=h;exact⟨S,r2,P,f,f6J,f6J,J,I⟩
theorem MiP.below(h:MiP W B x)(Y:Bw W W'):MiP W' B x:=by
 obtain⟨r,e,b,c,g⟩:=h;exact⟨r,e,b,c,g.below Y⟩
theorem MiP.lower(h:MiP W B x)(Y:B'<=B):MiP W B' x:=by
 obtain⟨r,e,b,c⟩:=h;exact⟨r,e,f6J,c⟩
end
structure DataV(W:World)(B:Nat)(rs:List Rec)(t1 t2 t3 t4 t5 a1 l1 a2 l2 a3 l3 a4 l4 a5 l5 c1 c2 x1:Value):Prop where
 p1:TrP W B t1 (Cn.rangesA (fun _ r=>Cn.value r) 1 (Cn.famOf 1 rs))
 p2:TrP W B t2 (Cn.rangesA (fun _ r=>Cn.value r) 1 (Cn.famOf 2 rs))
 p3:TrP W B t3 (Cn.rangesA (fun _ r=>Cn.value r) 1 (Cn.famOf 4 rs))
 p4:TrP W B t4 (Cn.rangesA (fun _ r=>Cn.value r) 1 (Cn.famOf 5 rs))
 p5:TrP W B t5 (Cn.rangesA (fun _ r=>Cn.value r) 1 (Cn.famOf 6 rs))
 q1:SpP W B a1 l1 (Cn.famOf 1 rs)
 q2:SpP W B a2 l2 (Cn.famOf 3 rs)
 q3:SpP W B a3 l3 (Cn.famOf 7 rs)
 q4:SpP W B a4 l4 (Cn.famOf 8 rs)
 q5:SpP W B a5 l5 (Cn.famOf 9 rs)
 co:CoP W B c1 c2 rs
 mi:MiP W B x1
theorem DataV.below{W W' B rs t1 t2 t3 t4 t5 a1 l1 a2 l2 a3 l3 a4 l4 a5 l5 c1 c2 x1}(h:DataV W B rs t1 t2 t3 t4 t5 a1 l1 a2 l2 a3 l3 a4 l4 a5 l5 c1 c2 x1)(Y:Bw W W'):DataV W' B rs t1 t2 t3 t4 t5 a1 l1 a2 l2 a3 l3 a4 l4 a5 l5 c1 c2 x1:=⟨h.p1.below Y,h.p2.below Y,h.p3.below Y,h.p4.below Y,h.p5.below Y,h.q1.below Y,h.q2.below Y,h.q3.below Y,h.q4.below Y,h.q5.below Y,h.co.below Y,h.mi.below Y⟩
def x0o(W:World)(B p:Nat)(rs:List Rec):Prop:=∃t1 t2 t3 t4 t5 a1 l1 a2 l2 a3 l3 a4 l4 a5 l5 c1 c2 x1:Value,W.heap[p]?=some (.cells #[t1,t2,t3,t4,t5,a1,l1,a2,l2,a3,l3,a4,l4,a5,l5,c1,c2,x1] 156 (0,0))/\B<=p/\DataV W B rs t1 t2 t3 t4 t5 a1 l1 a2 l2 a3 l3 a4 l4 a5 l5 c1 c2 x1
theorem x0o.below{W W' B p rs}(h:x0o W B p rs)(Y:Bw W W'):x0o W' B p rs:=by
 obtain⟨n,s,A,y,l,L,i,P,X,t,H,M,z,Q,T,c1,c2,u,Z,D,R⟩:=h;exact⟨n,s,A,y,l,L,i,P,X,t,H,M,z,Q,T,c1,c2,u,by rw[Y.block p (x6B Z)];exact Z,D,R.below Y⟩
def CmdB(w:World)(rs:List Rec)(e:Ending)(w':World):Prop:=∃p,e=.returned (.pointer (some ⟨p,0,none⟩))/\x0o w' w.heap.size p rs/\Below w.heap.size w w'
theorem y0h v rs w(hg:Glob w)(hv:Rcs w v rs)(hc:(Cn.check6 rs).2=0)(E:∀r∈rs,r.kind≠15->0<=Cn.value r/\Cn.value r<=65535)(h7:∀r∈rs,r.kind=7->r.to.length=2/\0<=r.lo/\r.lo<=1114111)(aP:∀r∈rs,r.kind=15->Sh r.name/\Sh r.other):Calls prog 46 #[v] w (CmdB w rs):=by
 obtain⟨hl,z,_⟩:=Cn.x0m.1 hc;have b:∀f:Int,f≠10->∀r∈Cn.famOf f rs,r.kind≠15:=fun f hf r u e=>hf (by rw[<- (Cn.x0r.1 u).2,e];exact e8N);have aw:∀f,(Cn.famOf f rs).length<=4096:=fun f=>Nat.le_trans (List.length_filter_le _ _) hl
 have KV:∀(K f:Int),Cn.fam K=f->f≠10->f≠0->I64 K->Hid (∀W,Bw w W->Calls prog 86 #[v,.int .i64 K] W (x6g W (Cn.rangesA (fun _ r=>Cn.value r) 1 (Cn.famOf f rs)))):=fun K f e1 e2 e3 e4 W t=>by
  subst e1;refine y1B v rs K W (hg.on t) (hv.below t) e4 (fun r u=>?_) (aw _) (fun m hp hs=>(Cn.y3f (Cn.y2i hc ⟨e2,e3⟩) (fun k hk=>?_) hp hs).1)
  ·have:=E r (Cn.x0r.1 u).1 (b _ e2 r u);exact⟨z r (Cn.x0r.1 u).1,b _ e2 r u,f6J,f6J⟩
  ·exact E _ (Cn.x0r.1 (List.getElem_mem hk)).1 (b _ e2 _ (List.getElem_mem hk))
 have a:∀(K f:Int),Cn.fam K=f->f≠10->f≠0->I64 K->Hid (∀W,Bw w W->Calls prog 87 #[v,.int .i64 K] W (SpkB W (Cn.famOf f rs))):=fun K f e1 e2 e3 e4 W t=>by
  subst e1;refine x7M v rs K W (hg.on t) (hv.below t) e4 (fun r u=>⟨z r (Cn.x0r.1 u).1,b _ e2 r u⟩) (aw _) (fun m hp hs=>(Cn.x8o hc ⟨e2,e3⟩ hp hs).1)
 have KC:Hid (∀W,Bw w W->Calls prog 88 #[v] W (CmpB W rs)):=fun W t=>x4e v rs W (hv.below t) h7 hl;have KM:Hid (∀W,Bw w W->Calls prog 89 #[v] W (MxtB W)):=fun W t=>x7J v rs W (hv.below t) aP;have V1:=KV 1 1 e8N e8N e8N ⟨f6J,f6J⟩;have V2:=KV 6 2 e8N e8N e8N ⟨f6J,f6J⟩;have V3:=KV 9 4 e8N e8N e8N ⟨f6J,f6J⟩;have V4:=KV 10 5 e8N e8N e8N ⟨f6J,f6J⟩;have V5:=KV 11 6 e8N e8N e8N ⟨f6J,f6J⟩;have P1:=a 3 1 e8N e8N e8N ⟨f6J,f6J⟩;have P2:=a 7 3 e8N e8N e8N ⟨f6J,f6J⟩;have P3:=a 12 7 e8N e8N e8N ⟨f6J,f6J⟩;have P4:=a 13 8 e8N e8N e8N ⟨f6J,f6J⟩;have P5:=a 14 9 e8N e8N e8N ⟨f6J,f6J⟩;obtain⟨ao,cap,aR,_,_⟩:=hv.shape;subst aR;have Y:=O (Below.refl w.heap.size w);go_enter func46,ntmps46;go_wp2_with fail;refine(V V1 _ (V Y)).mono ?_;rintro e1 w1 ⟨b1,m1,rfl,u1,u2,u3,aQ⟩;have U:=O (x0b (V Y) aQ);have A:Hid (TrP w1 w.heap.size (.pointer (some b1)) (Cn.rangesA (fun _ r=>Cn.value r) 1 (Cn.famOf 1 rs))):=TrP.lower ⟨_,_,rfl,u1,u2,u3⟩ (V Y).size;go_wp2_with fail;refine(V V2 _ (V U)).mono ?_;rintro e2 w2 ⟨b2,m2,rfl,u1,u2,u3,F⟩;have i:=O (x0b (V U) F);have X:Hid (TrP w2 w.heap.size (.pointer (some b2)) (Cn.rangesA (fun _ r=>Cn.value r) 1 (Cn.famOf 2 rs))):=TrP.lower ⟨_,_,rfl,u1,u2,u3⟩ (V U).size;replace A:=O ((V A).below F);go_wp2_with fail;refine(V V3 _ (V i)).mono ?_;rintro e3 w3 ⟨b3,m3,rfl,u1,u2,u3,s⟩;have J:=O (x0b (V i) s);have C:Hid (TrP w3 w.heap.size (.pointer (some b3)) (Cn.rangesA (fun _ r=>Cn.value r) 1 (Cn.famOf 4 rs))):=TrP.lower ⟨_,_,rfl,u1,u2,u3⟩ (V i).size;replace A:=O ((V A).below s);replace X:=O ((V X).below s);go_wp2_with fail;refine(V V4 _ (V J)).mono ?_;rintro e4 w4 ⟨b4,m4,rfl,u1,u2,u3,N⟩;have aj:=O (x0b (V J) N);have G:Hid (TrP w4 w.heap.size (.pointer (some b4)) (Cn.rangesA (fun _ r=>Cn.value r) 1 (Cn.famOf 5 rs))):=TrP.lower ⟨_,_,rfl,u1,u2,u3⟩ (V J).size;replace A:=O ((V A).below N);replace X:=O ((V X).below N);replace C:=O ((V C).below N);go_wp2_with fail;refine(V V5 _ (V aj)).mono ?_;rintro e5 w5 ⟨b5,m5,rfl,u1,u2,u3,S⟩;have R:=O (x0b (V aj) S);have H:Hid (TrP w5 w.heap.size (.pointer (some b5)) (Cn.rangesA (fun _ r=>Cn.value r) 1 (Cn.famOf 6 rs))):=TrP.lower ⟨_,_,rfl,u1,u2,u3⟩ (V aj).size;replace A:=O ((V A).below S);replace X:=O ((V X).below S);replace C:=O ((V C).below S);replace G:=O ((V G).below S);go_wp2_with fail;refine(V P1 _ (V R)).mono ?_;rintro e6 w6 ⟨g1,n1,y1,bh,rfl,u1,u2,u3,u4,u5,y⟩;have am:=O (x0b (V R) y);have L:Hid (SpP w6 w.heap.size (.pointer (some g1)) y1 (Cn.famOf 1 rs)):=SpP.lower ⟨⟨_,_,rfl,u1,u2,u3⟩,_,u4,u5⟩ (V R).size
 obtain⟨aJ,aD,ay,aS⟩:∃o l c,y1=.slice o l c:=f4w
 subst aS;replace A:=O ((V A).below y);replace X:=O ((V X).below y);replace C:=O ((V C).below y);replace G:=O ((V G).below y);replace H:=O ((V H).below y);go_wp2_with fail;refine(V P2 _ (V am)).mono ?_;rintro e7 w7 ⟨g2,n2,y2,bj,rfl,u1,u2,u3,u4,u5,M⟩;have T:=O (x0b (V am) M);have ae:Hid (SpP w7 w.heap.size (.pointer (some g2)) y2 (Cn.famOf 3 rs)):=SpP.lower ⟨⟨_,_,rfl,u1,u2,u3⟩,_,u4,u5⟩ (V am).size
 obtain⟨aK,aF,az,aT⟩:∃o l c,y2=.slice o l c:=f4w
 subst aT;replace A:=O ((V A).below M);replace X:=O ((V X).below M);replace C:=O ((V C).below M);replace G:=O ((V G).below M);replace H:=O ((V H).below M);replace L:=O ((V L).below M);go_wp2_with fail;refine(V P3 _ (V T)).mono ?_;rintro e8 w8 ⟨g3,n3,y3,bm,rfl,u1,u2,u3,u4,u5,Z⟩;have aq:=O (x0b (V T) Z);have g:Hid (SpP w8 w.heap.size (.pointer (some g3)) y3 (Cn.famOf 7 rs)):=SpP.lower ⟨⟨_,_,rfl,u1,u2,u3⟩,_,u4,u5⟩ (V T).size
 obtain⟨aL,aG,aA,aU⟩:∃o l c,y3=.slice o l c:=f4w
 subst aU;replace A:=O ((V A).below Z);replace X:=O ((V X).below Z);replace C:=O ((V C).below Z);replace G:=O ((V G).below Z);replace H:=O ((V H).below Z);replace L:=O ((V L).below Z);replace ae:=O ((V ae).below Z);go_wp2_with fail;refine(V P4 _ (V aq)).mono ?_;rintro e9 w9 ⟨g4,n4,y4,bn,rfl,u1,u2,u3,u4,u5,d⟩;have q:=O (x0b (V aq) d);have n:Hid (SpP w9 w.heap.size (.pointer (some g4)) y4 (Cn.famOf 8 rs)):=SpP.lower ⟨⟨_,_,rfl,u1,u2,u3⟩,_,u4,u5⟩ (V aq).size
 obtain⟨aM,aH,aB,aV⟩:∃o l c,y4=.slice o l c:=f4w
 subst aV;replace A:=O ((V A).below d);replace X:=O ((V X).below d);replace C:=O ((V C).below d);replace G:=O ((V G).below d);replace H:=O ((V H).below d);replace L:=O ((V L).below d);replace ae:=O ((V ae).below d);replace g:=O ((V g).below d);go_wp2_with fail;refine(V P5 _ (V q)).mono ?_;rintro aZ aX ⟨g5,n5,y5,bp,rfl,u1,u2,u3,u4,u5,ab⟩;have P:=O (x0b (V q) ab);have ag:Hid (SpP aX w.heap.size (.pointer (some g5)) y5 (Cn.famOf 9 rs)):=SpP.lower ⟨⟨_,_,rfl,u1,u2,u3⟩,_,u4,u5⟩ (V q).size
 obtain⟨aN,aI,aC,aW⟩:∃o l c,y5=.slice o l c:=f4w
 subst aW;replace A:=O ((V A).below ab);replace X:=O ((V X).below ab);replace C:=O ((V C).below ab);replace G:=O ((V G).below ab);replace H:=O ((V H).below ab);replace L:=O ((V L).below ab);replace ae:=O ((V ae).below ab);replace g:=O ((V g).below ab);replace n:=O ((V n).below ab);go_wp2_with fail;refine(V KC _ (V P)).mono ?_;rintro ba aY ⟨r1,r2,rfl,u1,u2,u3,u4,I⟩;have af:=O (x0b (V P) I);have ar:Hid (CoP aY w.heap.size (.map (some r1)) (.map (some r2)) rs):=CoP.lower ⟨_,_,rfl,rfl,u1,u2,u3,u4⟩ (V P).size;replace A:=O ((V A).below I);replace X:=O ((V X).below I);replace C:=O ((V C).below I);replace G:=O ((V G).below I);replace H:=O ((V H).below I);replace L:=O ((V L).below I);replace ae:=O ((V ae).below I);replace g:=O ((V g).below I);replace n:=O ((V n).below I);replace ag:=O ((V ag).below I);go_wp2_with fail;refine(V KM _ (V af)).mono ?_;rintro be j ⟨r3,rfl,u1,u2,D⟩;have ai:=O (x0b (V af) D);have aO:Hid (MiP j w.heap.size (.map (some r3))):=MiP.lower ⟨_,rfl,u1,u2⟩ (V af).size;replace A:=O ((V A).below D);replace X:=O ((V X).below D);replace C:=O ((V C).below D);replace G:=O ((V G).below D);replace H:=O ((V H).below D);replace L:=O ((V L).below D);replace ae:=O ((V ae).below D);replace g:=O ((V g).below D);replace n:=O ((V n).below D);replace ag:=O ((V ag).below D);replace ar:=O ((V ar).below D)
 have HF:Hid (CmdB w rs (.returned (.pointer (some ⟨j.heap.size,0,none⟩))) (j.alloc (.cells #[.pointer (some b1),.pointer (some b2),.pointer (some b3),.pointer (some b4),.pointer (some b5),.pointer (some g1),.slice aJ aD ay,.pointer (some g2),.slice aK aF az,.pointer (some g3),.slice aL aG aA,.pointer (some g4),.slice aM aH aB,.pointer (some g5),.slice aN aI aC,.map (some r1),.map (some r2),.map (some r3)] 156))):=by
  have Q:Bw j (j.alloc (.cells #[.pointer (some b1),.pointer (some b2),.pointer (some b3),.pointer (some b4),.pointer (some b5),.pointer (some g1),.slice aJ aD ay,.pointer (some g2),.slice aK aF az,.pointer (some g3),.slice aL aG aA,.pointer (some g4),.slice aM aH aB,.pointer (some g5),.slice aN aI aC,.map (some r1),.map (some r2),.map (some r3)] 156)):=(b0r).alloc (l0r _) _;refine⟨_,rfl,⟨_,_,_,_,_,_,_,_,_,_,_,_,_,_,_,_,_,_,?_,(V ai).size,(V A).below Q,(V X).below Q,(V C).below Q,(V G).below Q,(V H).below Q,(V L).below Q,(V ae).below Q,(V g).below Q,(V n).below Q,(V ag).below Q,(V ar).below Q,(V aO).below Q⟩,x0b (V ai) Q⟩;show(j.heap.push _)[j.heap.size]?=_;simp
 exact I7o
def CpB(w:World)(rs:List Rec)(e:Ending)(w':World):Prop:=Below w.heap.size w w'/\((¬(Cn.check rs).2=0/\e=.returned (.tuple #[.pointer none,.int .i64 ((Cn.check rs).1:Int),.int .i64 (Cn.check rs).2]))\/((Cn.check rs).2=0/\∃p,e=.returned (.tuple #[.pointer (some ⟨p,0,none⟩),.int .i64 0,.int .i64 0])/\x0o w' w.heap.size p rs))
theorem y0g v rs w(K:Rcs w v rs)(A:Calls prog 45 #[v] w (x4a w (Cn.check rs)))(g:(Cn.check rs).2=0->∀W,Bw w W->Calls prog 46 #[v] W (CmdB W rs)):Calls prog 24 #[v] w (CpB w rs):=by
 have H:=O A;unfold x4a at H;have g:=O g;obtain⟨ao,cap,b,_,_⟩:=K.shape;unfold CpB;by_cases h:(Cn.check rs).2=0
 ·have G:=O (V g h);have r:=O h;generalize hck:Cn.check rs=q at *;obtain⟨C,J⟩:=q;simp only at h;subst h;subst b;go_enter func24,ntmps24;go_wp2_with fail;refine c0m H fun w1 E=>?_;have o:=O (V G w1 E);have I:=O E;go_wp2_with fail;refine(V o).mono ?_;rintro f d ⟨p,rfl,N,F⟩;have i:=O (x0b (V I) F)
  have S:Hid (x0o d w.heap.size p rs):=by
   obtain⟨n,s,c,y,l,L,Y,P,X,t,a,M,z,Q,T,c1,c2,u,Z,D,R⟩:=N;have U:=(V I).size;exact⟨n,s,c,y,l,L,Y,P,X,t,a,M,z,Q,T,c1,c2,u,Z,f6J,R.p1.lower U,R.p2.lower U,R.p3.lower U,R.p4.lower U,R.p5.lower U,R.q1.lower U,R.q2.lower U,R.q3.lower U,R.q4.lower U,R.q5.lower U,R.co.lower U,R.mi.lower U⟩
  go_wp2;go_ret3;exact⟨V i,.inr ⟨V r,p,rfl,V S⟩⟩
 ·have r:=O h;generalize hck:Cn.check rs=q at *;obtain⟨C,J⟩:=q;simp only at h;have m:(J != 0)=true:=bne_iff_ne.2 h;subst b;go_enter func24,ntmps24;go_wp2_with fail;refine c0m H fun w1 E=>?_;have I:=O E;go_wp2;go_ret3;exact⟨V I,.inl ⟨V r,rfl⟩⟩
open Ti
namespace Cn
theorem x5m{r a b c d}(h:bare r false a b c d=true):r.n=0:=by
 unfold bare at h;simp only[Bool.and_eq_true,Bool.false_or,decide_eq_true_eq]at h;exact h.1.1.1.1
theorem y1j{r}(h:right r=0)(G:r.kind≠15)(Z:r.kind≠4):0<=r.n/\r.n<=254:=by
 have X:=x0v h
 have N:1<=r.kind/\r.kind<=15:=by
  unfold fam at X;split at X
  ·exact absurd rfl X
  ·omega
 unfold right at h;rw[if_neg X,if_neg G]at h;have I:=x1j h;rw[Bool.and_eq_true]at I;have D:=I.2;by_cases J:r.kind=1\/r.kind=2\/r.kind=11
 ·rw[if_pos J]at D;have:=x5m D;omega
 rw[if_neg J]at D;by_cases c:r.kind=3
 ·rw[if_pos c]at D;exact g3V
 rw[if_neg c,if_neg Z]at D;by_cases H:r.kind=5
 ·rw[if_pos H]at D;exact i8U
 rw[if_neg H]at D;by_cases E:r.kind=13
 ·rw[if_pos E]at D;exact i8U
 rw[if_neg E]at D;by_cases K:r.kind=6
 ·grind
 rw[if_neg K]at D;by_cases A:r.kind=7
 ·rw[if_pos A]at D;exact i8U
 rw[if_neg A]at D;by_cases S:r.kind=8
 ·rw[if_pos S]at D;exact i8U
 rw[if_neg S]at D;by_cases Q:r.kind=9
 ·grind
 rw[if_neg Q]at D;by_cases F:r.kind=10
 ·grind
 rw[if_neg F]at D;by_cases C:r.kind=12
 ·rw[if_pos C]at D;exact g3V
 rw[if_neg C]at D;exact g3V
theorem x7a{r}(h:right r=0)(G:r.kind≠15):0<=value r/\value r<=65535:=by
 unfold value;split
 ·omega
 ·split
  ·omega
  ·split
   ·omega
   ·rename_i h34
    split
    ·omega
    ·split
     ·omega
     ·have:=y1j h G (fun e=>h34 (.inr e));omega
theorem x8j{b}(h:nameL b=true):b.size=4:=by
 unfold nameL at h;split at h
 ·rename_i a b c d he
  have:=congrArg List.length he;exact W2K
 ·cases h
theorem z0d{r}(h:right r=0)(j:r.kind=15):r.name.size=4/\r.other.size=4:=by
 have X:=x0v h;unfold right at h;rw[if_neg X,if_pos j]at h;obtain⟨_,_,_,Z,D,_⟩:=x1j h;exact⟨x8j Z,x8j D⟩
theorem x3n{c}(h:scalar c=true):0<=c/\c<=1114111:=by
 unfold scalar at h;have:=o0d h;omega
end Cn
theorem y1X v rs w(C:Glob w)(N:Rcs w v rs):Calls prog 24 #[v] w (CpB w rs):=by
 refine y0g v rs w N (z7C v rs w C N) fun A W t=>?_;have F:=(Cn.x0M.1 A).1;obtain⟨_,z,_⟩:=Cn.x0m.1 F;refine y0h v rs W (C.on t) (N.below t) F (fun r u G=>Cn.x7a (z r u) G) (fun r u o=>?_) (fun r u j=>?_)
 ·obtain⟨_,D,R⟩:=Cn.x0s (z r u) o;have H:=(Cn.x0u R).1;have E:=Cn.x3n D;exact⟨f6J,E.1,E.2⟩
 ·obtain⟨Z,D⟩:=Cn.z0d (z r u) j;exact⟨by unfold Sh;exact f6J,by unfold Sh;exact f6J⟩
section
variable {W W':World} {B p:Nat} {v vl c1 c2 x:Value} {xs:List Tri.Rg} {fs rs:List Rec}
theorem TrP.keep(h:TrP W B v xs)(U:W.heap.size<=W'.heap.size)(G:∀k,B<=k->k<W.heap.size->W'.heap[k]?=W.heap[k]?):TrP W' B v xs:=by
 obtain⟨a,m,e,p,s,t⟩:=h;exact⟨a,m,e,p,s,T4.keep t U G⟩
theorem SpP.keep(h:SpP W B v vl fs)(U:W.heap.size<=W'.heap.size)(G:∀k,B<=k->k<W.heap.size->W'.heap[k]?=W.heap[k]?):SpP W' B v vl fs:=by
 obtain⟨t,ps,u,e⟩:=h;exact⟨t.keep U G,ps,⟨x6b u.1 G,fun p L=>⟨(u.2 p L).1,(u.2 p L).2.1,x6b (u.2 p L).2.2 G⟩⟩,e⟩
theorem GAt.keep{K:Value->Prop}{r}{c:Value->Option Value}(h:GAt K W r c)(hr:B<=r)(G:∀k,B<=k->k<W.heap.size->W'.heap[k]?=W.heap[k]?):GAt K W' r c:=by
 obtain⟨A,z,Z,D⟩:=h;exact⟨A,z,by rw[G r hr (x6B Z)];exact Z,D⟩
theorem x0o.keep(h:x0o W B p rs)(U:W.heap.size<=W'.heap.size)(G:∀k,B<=k->k<W.heap.size->W'.heap[k]?=W.heap[k]?):x0o W' B p rs:=by
 obtain⟨n,s,C,y,l,L,i,P,X,t,H,M,z,Q,T,c1,c2,u,Z,D,R⟩:=h;refine⟨n,s,C,y,l,L,i,P,X,t,H,M,z,Q,T,c1,c2,u,by rw[G p D (x6B Z)];exact Z,D,⟨R.p1.keep U G,R.p2.keep U G,R.p3.keep U G,R.p4.keep U G,R.p5.keep U G,R.q1.keep U G,R.q2.keep U G,R.q3.keep U G,R.q4.keep U G,R.q5.keep U G,?_,?_⟩⟩
 ·obtain⟨S,r2,A,f,b1,m,J,I⟩:=R.co;exact⟨S,r2,A,f,b1,m,J.keep b1 G,I.keep m G⟩
 ·obtain⟨r,e,b,c,g⟩:=R.mi;exact⟨r,e,b,c,g.keep b G⟩
theorem x0o.lower{B'}(h:x0o W B p rs)(U:B'<=B):x0o W B' p rs:=by
 obtain⟨n,s,A,y,l,L,i,P,X,t,H,M,z,Q,T,c1,c2,u,Z,D,R⟩:=h;exact⟨n,s,A,y,l,L,i,P,X,t,H,M,z,Q,T,c1,c2,u,Z,f6J,R.p1.lower U,R.p2.lower U,R.p3.lower U,R.p4.lower U,R.p5.lower U,R.q1.lower U,R.q2.lower U,R.q3.lower U,R.q4.lower U,R.q5.lower U,R.co.lower U,R.mi.lower U⟩
end
open Ti
namespace Cn
def vget(rs:List Rec)(f c:Int):Int:=match hit rs f c with | some r=>value r | Option.none=>0
def rget(rs:List Rec)(f c:Int):Rec:=match hit rs f c with | some r=>r | Option.none=>none
end Cn
def y6K(w:World)(b:Bool)(e:Ending)(w':World):Prop:=e=.returned (.bool b)/\∃m,w'=w.drewN m
theorem tget{W B t rs}{f}(C:TrP W B t (Cn.rangesA (fun _ r=>Cn.value r) 1 (Cn.famOf f rs)))(F:(Cn.check6 rs).2=0)(X:f≠10/\f≠0) c(I:Fi c):Calls prog 146 #[t,.int .i64 c] W (x1r W (Cn.vget rs f c)):=by
 obtain⟨a,m,e,L,U,y⟩:=C;have z:=(Cn.x0m.1 F).2.1;have N:=Cn.y6G F X (fun r u A=>Cn.x7a (z r u) (fun e=>X.1 (by rw[<- A,e];exact e8M))) L U;have:=get4 t m 0 c W ⟨B,y⟩ I;rw[N.2 c]at this;exact this
theorem x7h{B p rs} c w(N:x0o w B p rs)(F:(Cn.check6 rs).2=0)(I:Rune c):Calls prog 94 #[.pointer (some ⟨p,0,none⟩),.int .i32 c] w (x1r w (Cn.vget rs 1 c)):=by
 obtain⟨n,s,E,y,l,L,i,P,X,t,H,M,z,Q,T,c1,c2,u,Z,D,R⟩:=N;obtain⟨o,q⟩:=I;have K:=O (tget R.p1 F e8N c ⟨f6J,f6J⟩);have x:w.cell? ⟨p,0,none⟩=some n:=cell_of (j:=0) Z (by show 0<18;exact f6J);obtain⟨a,m,e,-⟩:=R.p1;subst e;go_enter func94,ntmps94;exact W4C
theorem x7V{B p rs} c w(N:x0o w B p rs)(F:(Cn.check6 rs).2=0)(I:Rune c):Calls prog 98 #[.pointer (some ⟨p,0,none⟩),.int .i32 c] w (x1r w (Cn.vget rs 2 c)):=by
 obtain⟨n,s,E,y,l,L,i,P,X,t,H,M,z,Q,T,c1,c2,u,Z,D,R⟩:=N;obtain⟨o,q⟩:=I;have K:=O (tget R.p2 F e8N c ⟨f6J,f6J⟩);have x:w.cell? ⟨p,1,none⟩=some s:=cell_of (j:=1) Z (by show 1<18;exact f6J);obtain⟨a,m,e,-⟩:=R.p2;subst e;go_enter func98,ntmps98;exact W4C
theorem y7c{B p rs} c w(N:x0o w B p rs)(F:(Cn.check6 rs).2=0)(I:Rune c):Calls prog 156 #[.pointer (some ⟨p,0,none⟩),.int .i32 c] w (x1r w (Cn.vget rs 4 c)):=by
 obtain⟨n,s,E,y,l,L,i,P,X,t,H,M,z,Q,T,c1,c2,u,Z,D,R⟩:=N;obtain⟨o,q⟩:=I;have K:=O (tget R.p3 F e8N c ⟨f6J,f6J⟩);have x:w.cell? ⟨p,2,none⟩=some E:=cell_of (j:=2) Z (by show 2<18;exact f6J);obtain⟨a,m,e,-⟩:=R.p3;subst e;go_enter func156,ntmps156;exact W4C
theorem y8N{B p rs} c w(N:x0o w B p rs)(F:(Cn.check6 rs).2=0)(I:Rune c):Calls prog 309 #[.pointer (some ⟨p,0,none⟩),.int .i32 c] w (x1r w (Cn.vget rs 5 c)):=by
 obtain⟨n,s,E,y,l,L,i,P,X,t,H,M,z,Q,T,c1,c2,u,Z,D,R⟩:=N;obtain⟨o,q⟩:=I;have K:=O (tget R.p4 F e8N c ⟨f6J,f6J⟩);have x:w.cell? ⟨p,3,none⟩=some y:=cell_of (j:=3) Z (by show 3<18;exact f6J);obtain⟨a,m,e,-⟩:=R.p4;subst e;go_enter func309,ntmps309;exact W4C
theorem y9f{B p rs} c w(N:x0o w B p rs)(F:(Cn.check6 rs).2=0)(I:Rune c):Calls prog 209 #[.pointer (some ⟨p,0,none⟩),.int .i32 c] w (y6K w (Cn.vget rs 6 c != 0)):=by
 obtain⟨n,s,E,y,l,L,i,P,X,t,H,M,z,Q,T,c1,c2,u,Z,D,R⟩:=N;obtain⟨o,q⟩:=I;have K:=O (tget R.p5 F e8N c ⟨f6J,f6J⟩);have x:w.cell? ⟨p,4,none⟩=some l:=cell_of (j:=4) Z (by show 4<18;exact f6J);obtain⟨a,m,e,-⟩:=R.p5;subst e;go_enter func209,ntmps209;exact W4C
namespace Cn
theorem y8T{k f}(h:fam k=f):(f=1->1<=k/\k<=5)/\(f=2->k=6)/\(3<f->k=f+5):=by
 subst h;unfold fam;split
 ·omega
 ·omega
variable {rs:List Rec}
theorem z0N{r}(h:6<=r.kind)(D:r.kind≠11):value r=r.n:=by
 unfold value;rw[if_neg f6J,if_neg f6J,if_neg f6J,if_neg f6J,if_neg D]
theorem z3s(F:(check6 rs).2=0) c:cls rs c=vget rs 2 c:=by
 unfold cls vget
 cases he:hit rs 2 c with
 | none=>rfl
 | some r =>
  have G:=(y8T ((x1z F e8N r).1 he).2.1).2.1 rfl;exact(z0N f6J f6J).symm
end Cn
structure Ovr(w w1 w4 W:World)(ao:Option Addr)(ps:List (Rec×Value))(k:Nat):Prop where
 sz:W.heap.size=w4.heap.size
 bel:Below w.heap.size w W
 far:∀b,w1.heap.size<=b->W.heap[b]?=w4.heap[b]?
 rcd:ps.length=0\/∃g cur,ao=some ⟨g,0,none⟩/\w.heap.size<=g/\g<w1.heap.size/\W.heap[g]?=some (.cells cur 67 (0,0))/\ps.length*8<=cur.size/\∀i,k<=i->i<ps.length->cur.getD (i*8+4) undef=(ps.getD i (Cn.none,undef)).2
 lst:∀q∈ps,q.1.to≠[]->∃gi capi cur,q.2=.slice (some ⟨gi,0,none⟩) q.1.to.length capi/\w.heap.size<=gi/\gi<w1.heap.size/\W.heap[gi]?=some (.cells cur 21 (0,0))/\q.1.to.length<=cur.size
section
variable {w w1 w4 W:World} {ao:Option Addr} {ps:List (Rec×Value)} {cap k:Nat}
theorem Ovr.start(h:Rown w1 w.heap.size (.slice ao ps.length cap) ps)(Y:Bw w w4)(N:Bw w1 w4):Ovr w w1 w4 w4 ao ps 0:=by
 refine⟨rfl,Y,fun k _=>rfl,?_,fun q m F=>?_⟩
 ·rcases h.1.2 with⟨_,A⟩|⟨g,J,T,b,C,a,E,I,U,Q⟩
  ·exact .inl A
  ·obtain⟨P,_,D⟩:=Value.slice.inj b;have H:g<w1.heap.size:=x6B a;refine .inr ⟨g,T,P,C,H,by rw[N.block g H];exact a,f6J,fun i _ hi=>?_⟩;have e:=x1v ps i 4 hi f6J;have S:(x0z (ps.getD i (Cn.none,undef)))[4]?=some (ps.getD i (Cn.none,undef)).2:=rfl;rw[S,<- Q,List.getElem?_take,if_pos f6J,Array.getElem?_toList]at e;rw[Array.getD_eq_getD_getElem?,e];rfl
 ·have X:=h.2 q m;rcases X.row.2 with⟨_,A⟩|⟨g,J,T,b,C,a,E,I,U,Q⟩
  ·grind
  ·have H:=(X.2.2.lt g (by rw[b];rfl)).2;exact⟨g,J,T,b,C,H,by rw[N.block g H];exact a,f6J⟩
theorem y1p(W:World) a v:(W.setCell a v).heap.size=W.heap.size:=by
 unfold World.setCell;split<;>simp
theorem Ovr.item(h:Ovr w w1 w4 W ao ps k){gi cur}(J:w.heap.size<=gi)(g2:gi<w1.heap.size)(a:W.heap[gi]?=some (.cells cur 21 (0,0))) j v:Ovr w w1 w4 (W.setCell ⟨gi,j,none⟩ v) ao ps k:=by
 refine⟨by rw[y1p];exact h.sz,x0d h.bel J v,fun b Y=>by rw[x0g v f6J];exact h.far b Y,?_,fun q m F=>?_⟩
 ·rcases h.rcd with A|⟨S,H,e,K,M,G,I⟩
  ·exact .inl A
  ·refine .inr ⟨S,H,e,K,M,?_,I⟩;rw[x0g v (fun e=>by subst e;rw[a]at G;simp at G)];exact G
 ·obtain⟨S,D,H,P,f,E,o,i⟩:=h.lst q m F;by_cases C:S=gi
  ·subst C;rw[a]at o;simp only[Option.some.injEq,Obj.cells.injEq,and_true]at o;subst o;exact⟨S,D,_,P,f,E,x0f a v,by rw[Array.size_setIfInBounds];exact i⟩
  ·exact⟨S,D,H,P,f,E,by rw[x0g v C];exact o,i⟩
theorem y9O W g off(q:Rec×Value):(putR W g off q).heap.size=W.heap.size:=by
 unfold putR;simp only[y1p]
theorem Ovr.wipe(h:Ovr w w1 w4 W ao ps k){g}(C:ao=some ⟨g,0,none⟩)(G:k<ps.length)(q:Rec×Value):Ovr w w1 w4 (putR W g (k*8) q) ao ps (k+1):=by
 rcases h.rcd with A|⟨S,T,e,J,I,N,U,Q⟩
 ·omega
 ·rw[C]at e;simp only[Option.some.injEq,Addr.mk.injEq,and_true]at e;subst e;refine⟨by rw[y9O];exact h.sz,x8p h.bel J q,fun b Y=>by rw[x9z q f6J];exact h.far b Y,.inr ⟨g,_,C,J,I,y9N N q,by rw[z0n];exact U,fun j K a=>?_⟩,fun p L F=>?_⟩
  ·rw[<- Q j f6J a];simp only[Array.getD_eq_getD_getElem?];rw[z0m T (k*8) q f6J,if_neg f6J]
  ·obtain⟨M,D,H,P,f,E,o,i⟩:=h.lst p L F;refine⟨M,D,H,P,f,E,?_,i⟩;rw[x9z q (fun e=>by subst e;rw[N]at o;simp at o)];exact o
end
namespace Cn
def x1m(r:Rec):Bool :=
  if r.kind=1\/r.kind=2\/r.kind=11 then bare r false false false false false
  else if r.kind=3 then bare r false true false false false&&list r.to 1 24
  else if r.kind=4 then bare r true true false false false&&decide (1<=r.n/\r.n<=64)&&list r.to 1 1&&decide (r.to.getD 0 0+r.hi-r.lo<=1114111/\(r.to.getD 0 0+r.hi-r.lo<55296\/57343<r.to.getD 0 0))
  else if r.kind=5 then decide (r.lo=r.hi)&&scalar r.lo&&bare r false true false false false&&list r.to 0 24
  else if r.kind=13 then decide (r.lo=r.hi)&&scalar r.lo&&bare r false true false false false&&list r.to 1 24
  else if r.kind=6 then bare r true false false false false&&decide (1<=r.n/\r.n<=254)
  else if r.kind=7 then decide (r.lo=r.hi)&&scalar r.lo&&bare r false true false false false&&list r.to 2 2
  else if r.kind=8 then decide (r.lo=r.hi)&&scalar r.lo&&bare r false true false false false&&list r.to 1 2
  else if r.kind=9 then bare r true false false false false&&decide (0<=r.n/\r.n<=10)
  else if r.kind=10 then bare r true false false false false&&decide (0<=r.n/\r.n<=5)
  else if r.kind=12 then bare r false false true false false&&nameL r.name
  else bare r false false false false true&&weight r.wt
theorem y6h{r}(h:fam r.kind=0):right r=60:=by unfold right;rw[if_pos h]
theorem z2Y{r}(h:r.kind=15):right r=ansG (decide (r.lo=0)&&decide (r.hi=0)&&bare r false false true true true&&nameL r.name&&nameL r.other&&decide (r.name≠r.other)&&weight r.wt):=by
 unfold right ansG;rw[if_neg s8h,if_pos h];simp[and_assoc]
theorem y6g{r}(A:fam r.kind≠0)(j:r.kind≠15):right r=ansG (decide (0<=r.lo/\r.lo<=r.hi/\r.hi<=1114111)&&x1m r):=by
 unfold right;rw[if_neg A,if_neg j];rfl
theorem y8b{k}(h:fam k≠0):1<=k/\k<=15:=by
 unfold fam at h;split at h
 ·exact absurd rfl h
 ·omega
end Cn
theorem z4k{r}(h:r.kind=1):Cn.x1m r=(Cn.bare r false false false false false):=by
 unfold Cn.x1m;rw[if_pos f6J]
theorem z4l{r}(h:r.kind=2):Cn.x1m r=(Cn.bare r false false false false false):=by
 unfold Cn.x1m;rw[if_pos f6J]
theorem z4m{r}(h:r.kind=3):Cn.x1m r=(Cn.bare r false true false false false&&Cn.list r.to 1 24):=by
 unfold Cn.x1m;rw[if_neg f6J,if_pos f6J]
theorem z9H{r}(h:r.kind=4):Cn.x1m r=(Cn.bare r true true false false false&&decide (1<=r.n/\r.n<=64)&&Cn.list r.to 1 1&&decide (r.to.getD 0 0+r.hi-r.lo<=1114111/\(r.to.getD 0 0+r.hi-r.lo<55296\/57343<r.to.getD 0 0))):=by
 unfold Cn.x1m;rw[if_neg f6J,if_neg f6J,if_pos f6J]
theorem z4n{r}(h:r.kind=5):Cn.x1m r=((decide (r.lo=r.hi)&&Cn.scalar r.lo)&&Cn.bare r false true false false false&&Cn.list r.to 0 24):=by
 unfold Cn.x1m;rw[if_neg f6J,if_neg f6J,if_neg f6J,if_pos f6J]
theorem z4o{r}(h:r.kind=6):Cn.x1m r=(Cn.bare r true false false false false&&decide (1<=r.n/\r.n<=254)):=by
 unfold Cn.x1m;rw[if_neg f6J,if_neg f6J,if_neg f6J,if_neg f6J,if_neg f6J,if_pos f6J]
theorem z4p{r}(h:r.kind=7):Cn.x1m r=((decide (r.lo=r.hi)&&Cn.scalar r.lo)&&Cn.bare r false true false false false&&Cn.list r.to 2 2):=by
 unfold Cn.x1m;rw[if_neg f6J,if_neg f6J,if_neg f6J,if_neg f6J,if_neg f6J,if_neg f6J,if_pos f6J]
theorem z4q{r}(h:r.kind=8):Cn.x1m r=((decide (r.lo=r.hi)&&Cn.scalar r.lo)&&Cn.bare r false true false false false&&Cn.list r.to 1 2):=by
 unfold Cn.x1m;rw[if_neg f6J,if_neg f6J,if_neg f6J,if_neg f6J,if_neg f6J,if_neg f6J,if_neg f6J,if_pos f6J]
theorem z4r{r}(h:r.kind=9):Cn.x1m r=(Cn.bare r true false false false false&&decide (0<=r.n/\r.n<=10)):=by
 unfold Cn.x1m;rw[if_neg f6J,if_neg f6J,if_neg f6J,if_neg f6J,if_neg f6J,if_neg f6J,if_neg f6J,if_neg f6J,if_pos f6J]
theorem z6T{r}(h:r.kind=10):Cn.x1m r=(Cn.bare r true false false false false&&decide (0<=r.n/\r.n<=5)):=by
 unfold Cn.x1m;rw[if_neg f6J,if_neg f6J,if_neg f6J,if_neg f6J,if_neg f6J,if_neg f6J,if_neg f6J,if_neg f6J,if_neg f6J,if_pos f6J]
theorem z0A{r}(h:r.kind=11):Cn.x1m r=(Cn.bare r false false false false false):=by
 unfold Cn.x1m;rw[if_pos f6J]
theorem z0B{r}(h:r.kind=12):Cn.x1m r=(Cn.bare r false false true false false&&Cn.nameL r.name):=by
 unfold Cn.x1m;rw[if_neg f6J,if_neg f6J,if_neg f6J,if_neg f6J,if_neg f6J,if_neg f6J,if_neg f6J,if_neg f6J,if_neg f6J,if_neg f6J,if_pos f6J]
theorem z0C{r}(h:r.kind=13):Cn.x1m r=((decide (r.lo=r.hi)&&Cn.scalar r.lo)&&Cn.bare r false true false false false&&Cn.list r.to 1 24):=by
 unfold Cn.x1m;rw[if_neg f6J,if_neg f6J,if_neg f6J,if_neg f6J,if_pos f6J]
theorem z0D{r}(h:r.kind=14):Cn.x1m r=(Cn.bare r false false false false true&&Cn.weight r.wt):=by
 unfold Cn.x1m;rw[if_neg f6J,if_neg f6J,if_neg f6J,if_neg f6J,if_neg f6J,if_neg f6J,if_neg f6J,if_neg f6J,if_neg f6J,if_neg f6J,if_neg f6J]
theorem y1h:z3C:=by
 intro r m w X U;obtain⟨ao,Y,rfl,C,_⟩:=U.shape;unfold recV;by_cases A:Cn.fam r.kind=0
 ·rw[Cn.y6h A];exact z6L r.kind r.lo r.hi r.n ao r.to.length Y r.name r.other r.wt w X.kind A
 ·have E:Hid (∀W y z F H J,Bw w W->Calls prog 113 #[recV r (.slice ao r.to.length Y),.bool y,.bool z,.bool F,.bool H,.bool J] W (x0c W (Cn.bare r y z F H J))):=fun W y z F H J h=>y2M r _ y z F H J W (U.below h);unfold recV at E;have KN:Hid (∀W,Calls prog 114 #[.string r.name] W fun e l=>e=.returned (.bool (Cn.nameL r.name))/\l=W):=fun W=>x5w r.name W;have q:Hid (∀W,Calls prog 115 #[.float .f64 r.wt] W fun e l=>e=.returned (.bool (Cn.weight r.wt))/\l=W):=fun W=>x9F r.wt W X.wt;by_cases j:r.kind=15
  ·rw[Cn.z2Y j];have M:Hid (∀W,Calls prog 114 #[.string r.other] W fun e l=>e=.returned (.bool (Cn.nameL r.other))/\l=W):=fun W=>x5w r.other W;rw[j]at E ⊢;exact rw_15 r.lo r.hi r.n ao r.to.length Y r.name r.other r.wt w X.lo X.hi _ _ _ _ (fun W h=>V E W false false true true true h) KN M q
  ·have KL:∀a b:Nat,Hid (∀W,Bw w W->Calls prog 117 #[.slice ao r.to.length Y,.int .i64 a,.int .i64 b] W fun e l=>e=.returned (.bool (Cn.list r.to a b))/\l=W):=fun a b W h=>y2N _ r.to a b W (U.below h) X.len;have G:=Cn.y8b A;rw[Cn.y6g A j];have Q:Hid (decide (0<=r.lo/\r.lo<=r.hi/\r.hi<=1114111)=true->(decide (r.lo=r.hi)&&Cn.scalar r.lo)=(decide (r.lo=r.hi)&&Cn.scalar r.lo)):=fun _=>rfl;have D:r.kind=1\/r.kind=2\/r.kind=3\/r.kind=4\/r.kind=5\/r.kind=6\/r.kind=7\/r.kind=8\/r.kind=9\/r.kind=10\/r.kind=11\/r.kind=12\/r.kind=13\/r.kind=14:=f6J;rcases D with hk1|hk1|hk1|hk1|hk1|hk1|hk1|hk1|hk1|hk1|hk1|hk1|hk1|hk1
   ·exact z9u r.kind r.lo r.hi r.n (.inl hk1) ao r.to.length Y r.name r.other r.wt w X.lo X.hi _ _ _ (rfl:_=decide (0<=r.lo/\r.lo<=r.hi/\r.hi<=1114111)) Q (Cn.bare r) E (fun e=>congrArg (fun x=>ansG (decide (0<=r.lo/\r.lo<=r.hi/\r.hi<=1114111)&&x)) (z4k e)) (fun e=>congrArg (fun x=>ansG (decide (0<=r.lo/\r.lo<=r.hi/\r.hi<=1114111)&&x)) (z4l e))
   ·exact z9u r.kind r.lo r.hi r.n (.inr hk1) ao r.to.length Y r.name r.other r.wt w X.lo X.hi _ _ _ (rfl:_=decide (0<=r.lo/\r.lo<=r.hi/\r.hi<=1114111)) Q (Cn.bare r) E (fun e=>congrArg (fun x=>ansG (decide (0<=r.lo/\r.lo<=r.hi/\r.hi<=1114111)&&x)) (z4k e)) (fun e=>congrArg (fun x=>ansG (decide (0<=r.lo/\r.lo<=r.hi/\r.hi<=1114111)&&x)) (z4l e))
   ·exact z9v r.kind r.lo r.hi r.n (.inr hk1) ao r.to.length Y r.name r.other r.wt w X.lo X.hi _ _ _ (rfl:_=decide (0<=r.lo/\r.lo<=r.hi/\r.hi<=1114111)) Q (Cn.bare r) E _ (KL 1 24) (fun e=>congrArg (fun x=>ansG (decide (0<=r.lo/\r.lo<=r.hi/\r.hi<=1114111)&&x)) (z0A e)) (fun e=>congrArg (fun x=>ansG (decide (0<=r.lo/\r.lo<=r.hi/\r.hi<=1114111)&&x)) (z4m e))
   ·have g:Hid (Cn.list r.to 1 1=true->Rune (r.to.getD 0 0)/\∃b P,ao=some ⟨b,P,none⟩/\r.to.length=1/\r.to.length<=Y/\∀W,Bw w W->W.cell? ⟨b,P,none⟩=some (.int .i32 (r.to.getD 0 0))):=fun h=>by
     unfold Cn.list at h;rw[Bool.and_eq_true]at h;have Z:=o0d h.1;have S:r.to.length=1:=f6J;obtain⟨b,P,cap,d,c1,c2,I⟩:=U.place f6J;simp only[Value.slice.injEq,true_and]at d;obtain⟨rfl,rfl⟩:=d;refine⟨x1c U f6J,b,P,rfl,S,C,fun W t=>?_⟩;have o:=I 0 f6J;rw[Nat.add_zero]at o;rw[t.cell (x0a o)];exact o
    exact rwg_e r.kind r.lo r.hi r.n (hk1) ao r.to.length Y r.name r.other r.wt w X.lo X.hi X.n _ _ _ (rfl:_=decide (0<=r.lo/\r.lo<=r.hi/\r.hi<=1114111)) Q (Cn.bare r) E _ (KL 1 1) (r.to.getD 0 0) g (decide (r.to.getD 0 0+r.hi-r.lo<=1114111/\(r.to.getD 0 0+r.hi-r.lo<55296\/57343<r.to.getD 0 0))) (fun h=>o0d h) (fun h=>g2b) (decide (1<=r.n/\r.n<=64)) (fun h=>o0d h) (fun h=>g2b) (fun e=>congrArg (fun x=>ansG (decide (0<=r.lo/\r.lo<=r.hi/\r.hi<=1114111)&&x)) (z9H e))
   ·exact z9w r.kind r.lo r.hi r.n (.inl hk1) ao r.to.length Y r.name r.other r.wt w X.lo X.hi _ _ _ (rfl:_=decide (0<=r.lo/\r.lo<=r.hi/\r.hi<=1114111)) Q (Cn.bare r) E _ (KL 0 24) _ (KL 1 24) (fun e=>congrArg (fun x=>ansG (decide (0<=r.lo/\r.lo<=r.hi/\r.hi<=1114111)&&x)) (z4n e)) (fun e=>congrArg (fun x=>ansG (decide (0<=r.lo/\r.lo<=r.hi/\r.hi<=1114111)&&x)) (z0C e))
   ·exact z9y r.kind r.lo r.hi r.n (.inl hk1) ao r.to.length Y r.name r.other r.wt w X.lo X.hi X.n _ _ _ (rfl:_=decide (0<=r.lo/\r.lo<=r.hi/\r.hi<=1114111)) Q (Cn.bare r) E (decide (1<=r.n/\r.n<=254)) (fun h=>o0d h) (fun h=>g2b) (decide (0<=r.n/\r.n<=10)) (fun h=>o0d h) (fun h=>g2b) (fun e=>congrArg (fun x=>ansG (decide (0<=r.lo/\r.lo<=r.hi/\r.hi<=1114111)&&x)) (z4o e)) (fun e=>congrArg (fun x=>ansG (decide (0<=r.lo/\r.lo<=r.hi/\r.hi<=1114111)&&x)) (z4r e))
   ·exact z9x r.kind r.lo r.hi r.n (.inl hk1) ao r.to.length Y r.name r.other r.wt w X.lo X.hi _ _ _ (rfl:_=decide (0<=r.lo/\r.lo<=r.hi/\r.hi<=1114111)) Q (Cn.bare r) E _ (KL 2 2) _ (KL 1 2) (fun e=>congrArg (fun x=>ansG (decide (0<=r.lo/\r.lo<=r.hi/\r.hi<=1114111)&&x)) (z4p e)) (fun e=>congrArg (fun x=>ansG (decide (0<=r.lo/\r.lo<=r.hi/\r.hi<=1114111)&&x)) (z4q e))
   ·exact z9x r.kind r.lo r.hi r.n (.inr hk1) ao r.to.length Y r.name r.other r.wt w X.lo X.hi _ _ _ (rfl:_=decide (0<=r.lo/\r.lo<=r.hi/\r.hi<=1114111)) Q (Cn.bare r) E _ (KL 2 2) _ (KL 1 2) (fun e=>congrArg (fun x=>ansG (decide (0<=r.lo/\r.lo<=r.hi/\r.hi<=1114111)&&x)) (z4p e)) (fun e=>congrArg (fun x=>ansG (decide (0<=r.lo/\r.lo<=r.hi/\r.hi<=1114111)&&x)) (z4q e))
   ·exact z9y r.kind r.lo r.hi r.n (.inr hk1) ao r.to.length Y r.name r.other r.wt w X.lo X.hi X.n _ _ _ (rfl:_=decide (0<=r.lo/\r.lo<=r.hi/\r.hi<=1114111)) Q (Cn.bare r) E (decide (1<=r.n/\r.n<=254)) (fun h=>o0d h) (fun h=>g2b) (decide (0<=r.n/\r.n<=10)) (fun h=>o0d h) (fun h=>g2b) (fun e=>congrArg (fun x=>ansG (decide (0<=r.lo/\r.lo<=r.hi/\r.hi<=1114111)&&x)) (z4o e)) (fun e=>congrArg (fun x=>ansG (decide (0<=r.lo/\r.lo<=r.hi/\r.hi<=1114111)&&x)) (z4r e))
   ·exact rwg_g r.kind r.lo r.hi r.n (hk1) ao r.to.length Y r.name r.other r.wt w X.lo X.hi X.n _ _ _ (rfl:_=decide (0<=r.lo/\r.lo<=r.hi/\r.hi<=1114111)) Q (Cn.bare r) E (decide (0<=r.n/\r.n<=5)) (fun h=>o0d h) (fun h=>g2b) (fun e=>congrArg (fun x=>ansG (decide (0<=r.lo/\r.lo<=r.hi/\r.hi<=1114111)&&x)) (z6T e))
   ·exact z9v r.kind r.lo r.hi r.n (.inl hk1) ao r.to.length Y r.name r.other r.wt w X.lo X.hi _ _ _ (rfl:_=decide (0<=r.lo/\r.lo<=r.hi/\r.hi<=1114111)) Q (Cn.bare r) E _ (KL 1 24) (fun e=>congrArg (fun x=>ansG (decide (0<=r.lo/\r.lo<=r.hi/\r.hi<=1114111)&&x)) (z0A e)) (fun e=>congrArg (fun x=>ansG (decide (0<=r.lo/\r.lo<=r.hi/\r.hi<=1114111)&&x)) (z4m e))
   ·exact z9z r.kind r.lo r.hi r.n (.inl hk1) ao r.to.length Y r.name r.other r.wt w X.lo X.hi _ _ _ (rfl:_=decide (0<=r.lo/\r.lo<=r.hi/\r.hi<=1114111)) Q (Cn.bare r) E _ KN _ q (fun e=>congrArg (fun x=>ansG (decide (0<=r.lo/\r.lo<=r.hi/\r.hi<=1114111)&&x)) (z0B e)) (fun e=>congrArg (fun x=>ansG (decide (0<=r.lo/\r.lo<=r.hi/\r.hi<=1114111)&&x)) (z0D e))
   ·exact z9w r.kind r.lo r.hi r.n (.inr hk1) ao r.to.length Y r.name r.other r.wt w X.lo X.hi _ _ _ (rfl:_=decide (0<=r.lo/\r.lo<=r.hi/\r.hi<=1114111)) Q (Cn.bare r) E _ (KL 0 24) _ (KL 1 24) (fun e=>congrArg (fun x=>ansG (decide (0<=r.lo/\r.lo<=r.hi/\r.hi<=1114111)&&x)) (z4n e)) (fun e=>congrArg (fun x=>ansG (decide (0<=r.lo/\r.lo<=r.hi/\r.hi<=1114111)&&x)) (z0C e))
   ·exact z9z r.kind r.lo r.hi r.n (.inr hk1) ao r.to.length Y r.name r.other r.wt w X.lo X.hi _ _ _ (rfl:_=decide (0<=r.lo/\r.lo<=r.hi/\r.hi<=1114111)) Q (Cn.bare r) E _ KN _ q (fun e=>congrArg (fun x=>ansG (decide (0<=r.lo/\r.lo<=r.hi/\r.hi<=1114111)&&x)) (z0B e)) (fun e=>congrArg (fun x=>ansG (decide (0<=r.lo/\r.lo<=r.hi/\r.hi<=1114111)&&x)) (z0D e))
theorem y9W:y1H:=x9D y1h y1f
theorem y9X:y6O:=y1e y9W x9E
namespace Cn
theorem x4K{l}(h:(check l).2=0):(check l).1=0:=by
 unfold check at h ⊢;by_cases Z:(check6 l).2≠0
 ·grind
 ·rw[if_neg Z]at h ⊢
  cases hx:x0U l 0 l with
  | some x=>rw[hx]at h;exact absurd h (x3V _ _ _ hx)
  | none=>grind
end Cn
theorem y2J{w1 B v}{ps:List (Rec×Value)}{rs}(hr:Rown w1 B v ps)(L:ps.map (·.1)=rs)(S:rs.length<=1000000000)(X:∀r∈rs,RecFit r):Rcs w1 v rs:=by
 subst L;exact hr.rcs t2Y fun p T=>X _ (List.mem_map.2 ⟨p,T,rfl⟩)
theorem Rown.lower9{w B B' v}{ps:List (Rec×Value)}(h:Rown w B v ps)(Y:B'<=B):Rown w B' v ps:=⟨z0g h.1 Y,fun p L=>(h.2 p L).lower Y⟩
def z7r(w:World)(rs:List Rec)(e:Ending)(w':World):Prop:=Below w.heap.size w w'/\((¬(Cn.check rs).2=0/\e=.returned (.tuple #[.pointer none,.slice none 0 0,.int .i64 0]))\/((Cn.check rs).2=0/\∃p v ps,e=.returned (.tuple #[.pointer (some ⟨p,0,none⟩),v,.int .i64 1])/\x0o w' w.heap.size p rs/\Rown w' w.heap.size v ps/\ps.map (·.1)=rs))
theorem y3Z v rs0 w(hg:Glob w)(N:Rcs w v rs0):Calls prog 7 #[v] w (z7r w (rs0.take 150)):=by
 have aM:=N.1;obtain⟨ao,cap,rfl,aR,aS⟩:=N.shape;obtain⟨n,hn⟩:∃n,n=min rs0.length 150:=⟨_,rfl⟩;have aN:min (rs0.length:Int) 150=(n:Int):=f6J;have aF:n<=rs0.length:=f6J;have aX:n<=150:=f6J;have s:rs0.take 150=rs0.take n:=(by rw[hn,List.take_eq_take_min,Nat.min_comm]);have hH:=N.head aF;rw[s];have l:∀r∈rs0.take n,RecFit r:=fun r hr=>N.2.1 r (List.mem_of_mem_take hr);have aH:(rs0.take n).length=n:=U3u;clear s hn N;generalize rs0.take n=rs,rs0.length=L at *;have K1:=O (x4s _ _ w hH);have D:=O l;have c:=O aH;have HG:=O hg;go_enter func7,ntmps7;go_wp2_with fail;refine(V K1).mono ?_;rintro e1 w1 ⟨v1,ab,rfl,p1,r1,b1⟩;have Y:=y2J r1 p1 (by rw[V c];exact f6J) (V D);have K2:=O (x4s _ _ w1 Y);obtain⟨a1,f,ai,_,aK⟩:=Y.shape;rw[V c]at ai;have C:ab.length=n:=(by have:=congrArg List.length p1;rw[List.length_map,V c]at this;exact this);subst ai;have K:=O Y;have S:=O r1;have U:=O b1;have I:=O C;go_wp2_with fail;refine(V K2).mono ?_;rintro e2 w2 ⟨v2,aJ,rfl,p2,r2,b2⟩;have Z:=y2J r2 p2 (by rw[V c];exact f6J) (V D);have K3:=O (y9X _ _ w2 Z);obtain⟨a2,y,aj,_,aL⟩:=Z.shape;rw[V c]at aj;subst aj;have ay:=O Z;have aq:=O r2;have i:=O b2;go_wp2_with fail;refine c0m K3 fun w3 b3=>?_;have J:=O b3;have K4:=O (y1X _ rs w3 (((V HG).on (V U)).on (x0b (V i) b3)) ((V K).below (x0b (V i) b3)));go_wp2_with fail;refine(V K4).mono ?_;rintro e4 w4 ⟨X,h4⟩;have u:=O X;have P:=O (y2V _ _ rs w4 ((V K).below (x0b (x0b (V i) (V J)) X)) ((V ay).below (x0b (V J) X)));rcases h4 with⟨F,rfl⟩|⟨h0,p,rfl,hD⟩
 ·have G:=O F;have hq:((Cn.check rs).2 != 0)=true:=bne_iff_ne.2 F;generalize hck:Cn.check rs=q at *;have t:=O hck;obtain⟨q1,q2⟩:=q;simp only at hq;go_wp2_with(go_at_call 25;refine(V P).mono ?_;rintro e5 M ⟨rfl,b5⟩;have R:=O b5;clear P b5);go_ret3;exact⟨x0b (x0b (V U) (x0b (x0b (V i) (V J)) (V u))) (V R),.inl ⟨by rw[V t];exact V G,rfl⟩⟩
 ·have hz:=Cn.x4K h0;have aQ:=O h0;have HD:=O hD;generalize hck:Cn.check rs=q at *;have t:=O hck;obtain⟨q1,q2⟩:=q;simp only at h0 hz;subst h0 hz;go_wp2_with(go_at_call 25;refine(V P).mono ?_;rintro e5 M ⟨rfl,b5⟩;have R:=O b5;clear P b5);have ae:=O (x0b (x0b (x0b (V i) (V J)) (V u)) (V R));have Q:=O (Ovr.start (w:=w) (w1:=w1) (w4:=M) (cap:=f) (ao:=a1) (ps:=ab) (by rw[V I];exact V S) (x0b (V U) (V ae)) (V ae))
  have am:Hid (∀k,k<n->∃ak E,(ab.getD k (Cn.none,undef)).2=.slice ak (ab.getD k (Cn.none,undef)).1.to.length E/\(ab.getD k (Cn.none,undef)).1.to.length<=140737488355328/\E<=9223372036854775807/\(ab.getD k (Cn.none,undef)).1.to.length<=E):=fun k hk=>by
   have z:ab.getD k (Cn.none,undef)∈ab:=by
    have:=V I;simp[List.getD,(f6J:k<ab.length)]
   obtain⟨ak,E,e,h1,h2⟩:=((V S).2 _ z).sk.shape;exact⟨ak,E,e,((V S).2 _ z).sk.len,h2,h1⟩
  have d:Hid (∀W k,Ovr w w1 M W a1 ab k->z7r w rs (.returned (.tuple #[.pointer (some ⟨p,0,none⟩),.slice a2 n y,.int .i64 1])) W):=fun W k H=>by
   have aO:=(V i).size;have aP:=(x0b (V i) (V J)).size;have be:=(V U).size;refine⟨H.bel,.inr ⟨by rw[V t],p,_,aJ,rfl,?_,?_,p2⟩⟩
   ·exact(((V HD).below (V R)).keep (by rw[H.sz];exact l0r _) (fun b hb _=>H.far b f6J)).lower f6J
   ·exact(((V aq).on7 (x0b (x0b (V J) (V u)) (V R))).far7 (fun b hb _=>H.far b hb)).lower9 f6J
  go_loopw[12,13] (fun ii _ wr=>∃k:Nat,ii=.int .i64 k/\k<=n/\Ovr w w1 M wr a1 ab k) (fun ii _ _=>n-(intOf ii).toNat)
  case atStart=>exact⟨0,rfl,f6J,V Q⟩
  case round =>
   obtain⟨k,rfl,hk,H⟩:=hrel;by_cases aD:k<n
   ·have C:=V I;obtain⟨ak,E,aG,aY,aZ,ba⟩:=V am k aD;have z:ab.getD k (Cn.none,undef)∈ab:=by simp[List.getD,(f6J:k<ab.length)]
    obtain⟨g,aC⟩:∃g,a1=some ⟨g,0,none⟩:=by
     rcases H.rcd with h0|⟨g,T,e,_⟩
     ·omega
     ·exact⟨g,e⟩
    subst aC
    have o:Hid (∀W,Ovr w w1 M W (some ⟨g,0,none⟩) ab k->W.cell? ⟨g,k*8+4,none⟩=some (ab.getD k (Cn.none,undef)).2/\∃T,W.heap[g]?=some (.cells T 67 (0,0))/\k*8+8<=T.size):=fun W h=>by
     rcases h.rcd with h0|⟨g',T,e,_,_,hh,hs,hc⟩
     ·omega
     ·simp only[Option.some.injEq,Addr.mk.injEq,and_true]at e;subst e;exact⟨by rw[cell_of (j:=k*8+4) hh f6J,hc k (l0r _) f6J],T,hh,f6J⟩
    have ag:Hid (∀W,Ovr w w1 M W (some ⟨g,0,none⟩) ab k->(ab.getD k (Cn.none,undef)).1.to≠[]->∃gi af T,(ab.getD k (Cn.none,undef)).2=.slice (some ⟨gi,0,none⟩) (ab.getD k (Cn.none,undef)).1.to.length af/\w.heap.size<=gi/\gi<w1.heap.size/\W.heap[gi]?=some (.cells T 21 (0,0))/\(ab.getD k (Cn.none,undef)).1.to.length<=T.size):=fun W h=>h.lst _ z;have aA:Hid (∀W,Ovr w w1 M W (some ⟨g,0,none⟩) ab k->Ovr w w1 M (putR W g (k*8) (Cn.none,.slice none 0 0)) (some ⟨g,0,none⟩) ab (k+1)):=fun W h=>h.wipe rfl f6J _;have HO:=O H;rw[aG]at o ag;generalize hql:(ab.getD k (Cn.none,undef)).1.to.length=tl at *;have az:=O hql;go_upto_block 2 with fail;go_cut[13] (fun _ wc=>Ovr w w1 M wc (some ⟨g,0,none⟩) ab k)
    case first =>
     go_wp2;go_loopw[13] (fun jj wd=>∃j:Nat,jj=.int .i64 j/\j<=tl/\Ovr w w1 M wd (some ⟨g,0,none⟩) ab k) (fun jj _=>tl-(intOf jj).toNat)
     case atStart=>exact⟨0,rfl,f6J,V HO⟩
     case round =>
      obtain⟨j,rfl,hj,A⟩:=hrel;obtain⟨aB,-⟩:=V o wr A;by_cases aW:j<tl
      ·obtain⟨gi,af,T,e,g1,g2,hh,aI⟩:=V ag wr A (fun e=>by have:=V az;rw[e]at this;simp at this;exact f6J);obtain⟨e1,e2,e3⟩:=Value.slice.inj e;subst e1 e3;have aT:=cell_of (j:=j) hh f6J;have aV:=x0e (j:=j) hh;have aw:=O (A.item g1 g2 hh j (.int .i32 65));generalize T.getD j undef=uj at *;go_wp2
       go_roundw
       case rel=>exact⟨j+1,g2A,f6J,V aw⟩
       case measure=>exact g7T
      ·have ar:=O A;go_wp2
       go_meet
       case rel=>exact V ar
    case rest =>
     obtain⟨aB,T,hh,aI⟩:=V o wc hcut;have HW:=O (V aA wc hcut);have y0:=cell_of (j:=k*8) hh f6J;have y1:=cell_of (j:=k*8+1) hh f6J;have y2:=cell_of (j:=k*8+2) hh f6J;have y3:=cell_of (j:=k*8+3) hh f6J;have y5:=cell_of (j:=k*8+5) hh f6J;have y6:=cell_of (j:=k*8+6) hh f6J;have y7:=cell_of (j:=k*8+7) hh f6J;have fz:=fun j=>x0e (j:=j) hh;have aU:∀W a m,(store a (.float .f64 0) m).run prog W=stored prog W a (.float .f64 0) m:=fun W a m=>run_store prog W a _ m rfl;generalize T.getD (k*8) undef=uy0,T.getD (k*8+1) undef=uy1,T.getD (k*8+2) undef=uy2,T.getD (k*8+3) undef=uy3,T.getD (k*8+5) undef=uy5,T.getD (k*8+6) undef=uy6,T.getD (k*8+7) undef=bh at *;go_wp2;exact⟨⟨k+1,g2A,f6J,V HW⟩,by simp[intOf];exact f6J⟩
   ·obtain rfl:k=n:=f6J;have HF:=O (V d wr k H);go_wp2;go_ret3;exact V HF
namespace Cn
def mk3(k lo hi:Int):Rec:=⟨k,lo,hi,0,[],⟨#[]⟩,⟨#[]⟩,0⟩
def x2o:List Rec:=[mk3 1 97 122,mk3 1 48 57,mk3 1 45 46,⟨4,65,90,1,[97],⟨#[]⟩,⟨#[]⟩,0⟩,mk3 1 224 224,mk3 1 768 768,⟨7,224,224,0,[97,768],⟨#[]⟩,⟨#[]⟩,0⟩,⟨6,768,768,230,[],⟨#[]⟩,⟨#[]⟩,0⟩,mk3 11 768 768,⟨14,224,224,0,[],⟨#[]⟩,⟨#[]⟩,4591870180066957722⟩]
theorem y0I:check x2o=(0,0):=M3j
end Cn
def lpsA:List (Rec×Value):=[(Cn.mk3 1 97 122,.slice none 0 0),(Cn.mk3 1 48 57,.slice none 0 0),(Cn.mk3 1 45 46,.slice none 0 0)]
def lpsB(n:Nat):List (Rec×Value):=[(⟨4,65,90,1,[97],⟨#[]⟩,⟨#[]⟩,0⟩,.slice (some ⟨n,0,none⟩) 1 1),(Cn.mk3 1 224 224,.slice none 0 0),(Cn.mk3 1 768 768,.slice none 0 0)]
def lpsC(n:Nat):List (Rec×Value):=[(⟨7,224,224,0,[97,768],⟨#[]⟩,⟨#[]⟩,0⟩,.slice (some ⟨n,0,none⟩) 2 2),(⟨6,768,768,230,[],⟨#[]⟩,⟨#[]⟩,0⟩,.slice none 0 0),(Cn.mk3 11 768 768,.slice none 0 0),(⟨14,224,224,0,[],⟨#[]⟩,⟨#[]⟩,4591870180066957722⟩,.slice none 0 0)]
theorem x9w(w:World) B(l:B<=w.heap.size) c(I:-2147483648<=c/\c<=2147483647):Ok .i32 21 (w.alloc (.cells #[.int .i32 c] 21)) B (.slice (some ⟨w.heap.size,0,none⟩) 1 1) [c]:=by
 refine⟨fun z o=>by simp at o;subst o;exact x0T I,M7K,M7K,.inr ⟨w.heap.size,1,#[.int .i32 c],rfl,l,?_,l0r _,by unfold maxLen;exact M7K,M7K,M7K⟩⟩;exact R0n
theorem z5Z(W:World) B(l:B<=W.heap.size)(ps:List (Rec×Value)) n(E:ps.length=n)(U:n<=100):(W.alloc (.cells (rcells ps).toArray 67)).ownsRow B 67 8 (.slice (some ⟨W.heap.size,0,none⟩) n n) n (rcells ps):=by
 subst E;refine⟨x1k ps,.inr ⟨W.heap.size,ps.length,(rcells ps).toArray,rfl,l,?_,l0r _,T7W,by rw[List.size_toArray,x1k],?_⟩⟩
 ·show(W.heap.push _)[W.heap.size]?=_;simp
 ·exact List.take_of_length_le (by rw[x1k];exact l0r _)
theorem y3Y(W:World)(ps:List (Rec×Value)):∀j u,(rcells ps)[j]?=some u->(W.alloc (.cells (rcells ps).toArray 67)).cell? ((⟨W.heap.size,0,none⟩:Addr).add j)=some u:=by
 intro j u h
 have a:(W.alloc (.cells (rcells ps).toArray 67)).heap[W.heap.size]?=some (.cells (rcells ps).toArray 67 (0,0)):=by
  show(W.heap.push _)[W.heap.size]?=_;simp
 rw[addr_add,Nat.zero_add];have K:j<(rcells ps).length:=(List.getElem?_eq_some_iff.1 h).1;rw[cell_of (j:=j) a R6c];rw[Array.getD_eq_getD_getElem?,List.getElem?_toArray,h];rfl
theorem x2r(ps A:List (Rec×Value)):rcells ps++rcells A=rcells (ps++A):=by unfold rcells;rw[List.flatMap_append]
theorem y1m{W1 W2 B v v'}{ps A:List (Rec×Value)}(R:Rown W1 B v ps)(m:∀q∈A,Ok .i32 21 W1 B q.2 q.1.to)(L:W2.ownsRow B 67 8 v' (ps.length+A.length) (rcells ps++rcells A))(C:W1.grownBy W2 v.ownBlock):Rown W2 B v' (ps++A):=by
 refine⟨by rw[List.length_append,<- x2r];exact L,fun p hp=>?_⟩;have S:∀p:Rec×Value,Ok .i32 21 W1 B p.2 p.1.to->Ok .i32 21 W2 B p.2 p.1.to:=fun p i=>i.keep fun g h=>C.block g (i.2.2.lt g h).2 (fun e=>x0N i.2.2 R.1 e8M h e.symm);rcases List.mem_append.1 hp with hp|hp
 ·exact S p (R.2 p hp)
 ·exact S p (m p hp)
theorem y9x(ps:List (Rec×Value))(h:∀p∈ps,p.2.oneCell'=true):∀u∈rcells ps,u.oneCell'=true:=by
 intro u A;obtain⟨p,L,A⟩:=List.mem_flatMap.1 A;exact x6W p.1 (h p L) u A
theorem Rown.alloc9{W B v}{ps:List (Rec×Value)}(h:Rown W B v ps) o:Rown (W.alloc o) B v ps:=h.on7 ((b0r).alloc (l0r _) o)
theorem y5E w:Calls prog 8 #[] w (x6i w Cn.x2o):=by
 obtain⟨i1,hj,J,R,y⟩:=info_parts Tryz.info67;obtain⟨T,K⟩:∃T,w.alloc (.cells (rcells lpsA).toArray 67)=T:=⟨_,rfl⟩
 have hA:Rown T w.heap.size (.slice (some ⟨w.heap.size,0,none⟩) 3 3) lpsA:=by
  rw[<- K];refine⟨z5Z w w.heap.size (l0r _) lpsA 3 rfl f6J,fun p L=>?_⟩;simp only[lpsA,List.mem_cons,List.mem_nil_iff,or_false]at L;rcases L with rfl|rfl|rfl<;>exact Ok.nil _ _ _ _
 have az:Bw w T:=(by rw[<- K];exact(b0r).alloc (l0r _) _);have aI:T.heap.size=w.heap.size+1:=(by rw[<- K];exact M7O);obtain⟨N,P⟩:∃N,T.alloc (.cells #[.int .i32 97] 21)=N:=⟨_,rfl⟩;have aA:Bw w N:=(by rw[<- P];exact az.alloc f6J _);have o:N.heap.size=w.heap.size+2:=by rw[<- P];exact P8P
 have aD:Ok .i32 21 N w.heap.size (.slice (some ⟨w.heap.size+1,0,none⟩) 1 1) [97]:=by
  have:=x9w T w.heap.size f6J 97 f6J;rw[P,aI]at this;exact this
 have ay:Rown N w.heap.size (.slice (some ⟨w.heap.size,0,none⟩) 3 3) lpsA:=(by rw[<- P];exact hA.alloc9 _);obtain⟨U,F⟩:∃U,N.alloc (.cells (rcells (lpsB (w.heap.size+1))).toArray 67)=U:=⟨_,rfl⟩;have aB:Bw w U:=(by rw[<- F];exact aA.alloc f6J _);have aM:U.heap.size=w.heap.size+3:=(by rw[<- F];exact P8P);have A:=y3Y N (lpsB (w.heap.size+1));rw[F,o]at A;have u:Rown U w.heap.size (.slice (some ⟨w.heap.size,0,none⟩) 3 3) lpsA:=by rw[<- F];exact ay.alloc9 _
 have aG:∀q∈lpsB (w.heap.size+1),Ok .i32 21 U w.heap.size q.2 q.1.to:=fun q hq=>by
  simp only[lpsB,List.mem_cons,List.mem_nil_iff,or_false]at hq;rcases hq with rfl|rfl|rfl
  ·rw[<- F];exact aD.below ((b0r).alloc (l0r _) _)
  ·exact n7i
  ·exact n7i
 have j:=y9x (lpsB (w.heap.size+1)) (fun p L=>by
  simp only[lpsB,List.mem_cons,List.mem_nil_iff,or_false]at L
  rcases L with rfl|rfl|rfl<;>rfl)
 have ae:=O u;have G:Hid (U.ownsRow w.heap.size 67 8 (.slice (some ⟨w.heap.size,0,none⟩) 3 3) 3 (rcells lpsA)):=u.1;have ar:=O aG;have C:=O A;have f:=O j;have aq:=O aB;replace K:w.alloc (.cells #[.int .i64 1,.int .i64 97,.int .i64 122,.int .i64 0,.slice none 0 0,.string ⟨#[]⟩,.string ⟨#[]⟩,.float .f64 0,.int .i64 1,.int .i64 48,.int .i64 57,.int .i64 0,.slice none 0 0,.string ⟨#[]⟩,.string ⟨#[]⟩,.float .f64 0,.int .i64 1,.int .i64 45,.int .i64 46,.int .i64 0,.slice none 0 0,.string ⟨#[]⟩,.string ⟨#[]⟩,.float .f64 0] 67)=T:=K;replace F:N.alloc (.cells #[.int .i64 4,.int .i64 65,.int .i64 90,.int .i64 1,.slice (some ⟨w.heap.size+1,0,none⟩) 1 1,.string ⟨#[]⟩,.string ⟨#[]⟩,.float .f64 0,.int .i64 1,.int .i64 224,.int .i64 224,.int .i64 0,.slice none 0 0,.string ⟨#[]⟩,.string ⟨#[]⟩,.float .f64 0,.int .i64 1,.int .i64 768,.int .i64 768,.int .i64 0,.slice none 0 0,.string ⟨#[]⟩,.string ⟨#[]⟩,.float .f64 0] 67)=U:=F;go_enter func8,ntmps8;go_wp2_with(at_builtin;refine wpList_append_own _ rfl (.tmp 6) (.tmp 11) 23 rfl w.heap.size 67 i1 (.agg #[.int .i64 0,.int .i64 0,.int .i64 0,.int .i64 0,.slice none 0 0,.string ⟨#[]⟩,.string ⟨#[]⟩,.float .f64 0]) 8 96 underlying23 hj J R y rfl e8P _ _ _ rfl (V G) ⟨w.heap.size+2,0,none⟩ 3 3 (rcells (lpsB (w.heap.size+1))) rfl (by rw[x1k];rfl) (V C) (V f) T7X f6J f6J ?_);intro E I D c _;have af:Rown I w.heap.size E (lpsA++lpsB (w.heap.size+1)):=y1m (V ae) (V ar) D c;have ab:Bw w I:=(V aq).grown c f6J (fun k hk=>((V ae).1.lt k hk).1);have aj:=ab.size
 have am:∃g cap,E=.slice (some ⟨g,0,none⟩) 6 cap:=by
  rcases D.2 with⟨_,h0⟩|⟨g,cap,aK,e,_⟩
  ·omega
  ·exact⟨g,cap,e⟩
 obtain⟨t,b,rfl⟩:=am;obtain⟨m,hm⟩:∃m,I.heap.size=m:=⟨_,rfl⟩;obtain⟨Y,Q⟩:∃Y,I.alloc (.cells #[.int .i32 97,.int .i32 768] 21)=Y:=⟨_,rfl⟩;have aC:Bw w Y:=(by rw[<- Q];exact ab.alloc f6J _);have aJ:Y.heap.size=m+1:=by rw[<- Q];exact P8P
 have aF:Ok .i32 21 Y w.heap.size (.slice (some ⟨m,0,none⟩) 2 2) [97,768]:=by
  have:=(ok_two I 97 768 f6J f6J).lower aj;rw[Q,hm]at this;exact this
 obtain⟨a,H⟩:∃a,Y.alloc (.cells (rcells (lpsC m)).toArray 67)=a:=⟨_,rfl⟩;have M:Bw w a:=(by rw[<- H];exact aC.alloc f6J _);have aN:a.heap.size=m+2:=(by rw[<- H];exact P8P);have A:=y3Y Y (lpsC m);rw[H,aJ]at A;have z:Rown a w.heap.size (.slice (some ⟨t,0,none⟩) 6 b) (lpsA++lpsB (w.heap.size+1)):=by rw[<- H,<- Q];exact(af.alloc9 _).alloc9 _
 have aH:∀q∈lpsC m,Ok .i32 21 a w.heap.size q.2 q.1.to:=fun q hq=>by
  simp only[lpsC,List.mem_cons,List.mem_nil_iff,or_false]at hq;rcases hq with rfl|rfl|rfl|rfl
  ·rw[<- H];exact aF.below ((b0r).alloc (l0r _) _)
  ·exact n7i
  ·exact n7i
  ·exact n7i
 have l:=y9x (lpsC m) (fun p L=>by
  simp only[lpsC,List.mem_cons,List.mem_nil_iff,or_false]at L
  rcases L with rfl|rfl|rfl|rfl<;>rfl)
 have n:Hid (a.ownsRow w.heap.size 67 8 (.slice (some ⟨t,0,none⟩) 6 b) 6 (rcells (lpsA++lpsB (w.heap.size+1)))):=z.1;have X:=O z;have aw:=O aH;have C:=O A;have i:=O l;have Z:=O M;have aL:w.heap.size<=m:=f6J;replace H:Y.alloc (.cells #[.int .i64 7,.int .i64 224,.int .i64 224,.int .i64 0,.slice (some ⟨m,0,none⟩) 2 2,.string ⟨#[]⟩,.string ⟨#[]⟩,.float .f64 0,.int .i64 6,.int .i64 768,.int .i64 768,.int .i64 230,.slice none 0 0,.string ⟨#[]⟩,.string ⟨#[]⟩,.float .f64 0,.int .i64 11,.int .i64 768,.int .i64 768,.int .i64 0,.slice none 0 0,.string ⟨#[]⟩,.string ⟨#[]⟩,.float .f64 0,.int .i64 14,.int .i64 224,.int .i64 224,.int .i64 0,.slice none 0 0,.string ⟨#[]⟩,.string ⟨#[]⟩,.float .f64 4591870180066957722] 67)=a:=H;go_wp2_with(at_builtin;refine wpList_append_own _ rfl (.tmp 13) (.tmp 19) 23 rfl w.heap.size 67 i1 (.agg #[.int .i64 0,.int .i64 0,.int .i64 0,.int .i64 0,.slice none 0 0,.string ⟨#[]⟩,.string ⟨#[]⟩,.float .f64 0]) 8 96 underlying23 hj J R y rfl e8P _ _ _ rfl (V n) ⟨m+1,0,none⟩ 4 4 (rcells (lpsC m)) rfl (by rw[x1k];rfl) (V C) (V i) T7X f6J f6J ?_);intro r s S d _;have ag:Rown s w.heap.size r (lpsA++lpsB (w.heap.size+1)++lpsC m):=y1m (V X) (V aw) S d;have ai:Bw w s:=(V Z).grown d f6J (fun k hk=>((V X).1.lt k hk).1);have HF:Hid (x6i w Cn.x2o (.returned r) s):=⟨r,_,rfl,rfl,ag,ai⟩;exact I7o
