/- Ul9 Us9 Ut9 Uv9 Uw9 Uy9 Va9 Rw7 Vb9 Vd9 -/
import Derived.Test.YtbmckadcjdedcaaGreatDoorD21
import Derived.Test.YtbmckadcjdedcaaGreatDoorD24
import Derived.Test.YtbmckadcjdedcaaGreatDoorD27
import Derived.Test.YtbmckadcjdedcaaGreatDoorD28
import Derived.Test.YtbmckadcjdedcaaGreatDoorD29
import Derived.Test.YtbmckadcjdedcaaGreatDoorD30
import Derived.Test.YtbmckadcjdedcaaGreatDoorD31
import Derived.Test.YtbmckadcjdedcaaGreatDoorD32
import Derived.Test.YtbmckadcjdedcaaGreatDoorD33
import Derived.Test.YtbmckadcjdedcaaGreatDoorD35
set_option maxHeartbeats 8000000
set_option maxRecDepth 100000
namespace Go.Proofs.YtbmckadcjdedcaaGreatDoor
open Go.Proofs.Tryz
open Go.RowKit
open Ti
section
variable{p:Prop}
theorem E4e(h:p:=by simp only[Bool.and_eq_true]at Z;have:=x5g Z.1.2;omega):p:=h
theorem g2b(h:p:=by have:=of_decide_eq_false h;exact f6J):p:=h
theorem W4H(h:p:=by simp only[Bool.and_eq_true]at Z;have:=x5g Z.1;omega):p:=h
theorem i5s(h:p:=by go_wp2_with(go_at_call 146;refine(V K).mono ?_;rintro e G ⟨rfl,C,rfl⟩;clear K);go_ret;exact⟨rfl,C,rfl⟩):p:=h
theorem f4w(h:p:=by
 rcases u4.1.2 with⟨e,_⟩ | ⟨_,_,_,e,_⟩
 ·exact⟨_,_,_,e⟩
 ·exact⟨_,_,_,e⟩):p:=h
end
theorem x7E(v:Value)(rs:List Rec)(ab:Int)(w:World)(hg:Glob w)(hv:Rcs w v rs)(hk:I64 ab)(cd:∀r∈Cn.famOf (Cn.fam ab) rs,Cn.right r=0/\r.kind≠15)(hl:(Cn.famOf (Cn.fam ab) rs).length<=4096)(bJ:∀m:List Tri.Rg,m.Perm (Cn.rangesA (fun i _=>(i:Int)) 1 (Cn.famOf (Cn.fam ab) rs))->(m.Pairwise fun x y=>Tri.lo x<=Tri.lo y)->Tri.Val 0 m):Calls prog 87 #[v,.int .i64 ab] w (SpkB w (Cn.famOf (Cn.fam ab) rs)):=by
 obtain⟨i0,bV,cD,cE,cF⟩:=info_parts Tryz.info259;obtain⟨i1,bX,cz,cB,cC⟩:=info_parts Tryz.info67;obtain⟨W1,W2,cT,bT,aF,aP,cg,bn⟩:=z6e w;have K1:=O (x5k v rs ab W2 (hg.on aF) (hv.below aF) hk);unfold FamB at K1
 have bA:W2.heap[w.heap.size+1]?=some (.cells #[.int .i64 0,.int .i64 0,.int .i64 0,.int .i64 0,.slice none 0 0,.string ⟨#[]⟩,.string ⟨#[]⟩,.float .f64 0] 67 (0,0)):=by
  rw[<- bT,<- aP];show(W1.heap.push _)[W1.heap.size]?=_;simp
 obtain⟨ao,cap,cx,_,_⟩:=hv.shape;generalize Cn.famOf (Cn.fam ab) rs=fs at *;have aC:=O cd;have A:=O bJ;have bN:=O bn;have bM:=O bA;have cR:=O aF;have aY:=O cg;subst cx;go_enter func87,ntmps87;go_wp2_with fail;refine(V K1).mono ?_;rintro e1 w1 ⟨v1,qs,rfl,bE,hR,E⟩;have cX:qs.length=fs.length:=(by rw[<- bE,List.length_map]);have aO:Rcs w1 v1 fs:=(by rw[<- bE];exact hR.rsx.rcs E f6J);have ar:=O (V bN w1 E)
 have aJ:w1.heap[w.heap.size+1]?=some (.cells #[.int .i64 0,.int .i64 0,.int .i64 0,.int .i64 0,.slice none 0 0,.string ⟨#[]⟩,.string ⟨#[]⟩,.float .f64 0] 67 (0,0)):=by
  rw[E.block _ (by have:=V aY;exact f6J)];exact V bM
 have aD:Hid (∀k,(Cn.rangesA (fun i _=>(i:Int)) 1 (fs.take k)).length<=4563402752):=fun k=>by
  have h1:=Cn.x3M (g:=fun i _=>(i:Int)) (fs.take k) 1 (fun r hr=>V aC r (List.mem_of_mem_take hr));have h2:(fs.take k).length<=fs.length:=List.length_take_le' _ _;omega
 have aq:Hid (∀k,k<fs.length->∃b P cap va,v1=.slice (some ⟨b,P,none⟩) fs.length cap/\RecFit (fs.getD k Cn.none)/\∀W:World,(∀g,g<w1.heap.size->g≠w.heap.size+1->W.heap[g]?=w1.heap[g]?)->(W.cell? ⟨b,P+k*8,none⟩=some (.int .i64 (fs.getD k Cn.none).kind)/\W.cell? ⟨b,P+k*8+1,none⟩=some (.int .i64 (fs.getD k Cn.none).lo)/\W.cell? ⟨b,P+k*8+2,none⟩=some (.int .i64 (fs.getD k Cn.none).hi)/\W.cell? ⟨b,P+k*8+3,none⟩=some (.int .i64 (fs.getD k Cn.none).n)/\W.cell? ⟨b,P+k*8+4,none⟩=some va/\W.cell? ⟨b,P+k*8+5,none⟩=some (.string (fs.getD k Cn.none).name)/\W.cell? ⟨b,P+k*8+6,none⟩=some (.string (fs.getD k Cn.none).other)/\W.cell? ⟨b,P+k*8+7,none⟩=some (.float .f64 (fs.getD k Cn.none).wt))/\Sk .i32 W va (fs.getD k Cn.none).to):=fun k hk=>by
  obtain⟨b,P,cap,he,_,_,hc⟩:=aO.place f6J;have cU:W2.heap.size<=b:=(hR.1.lt b (by rw[he];rfl)).1;have bU:b≠w.heap.size+1:=(by have:=V aY;exact f6J);obtain⟨y0,y1,y2,y3,⟨va,y4,am⟩,y5,y6,y7⟩:=hc k hk;refine⟨b,P,cap,va,he,aO.fit hk,fun W hW=>?_⟩;have e:∀j,W.cell? ⟨b,j,none⟩=w1.cell? ⟨b,j,none⟩:=fun j=>World.cell?_of_block (hW b (x0a y0) bU);exact⟨⟨by rw[e];exact y0,by rw[e];exact y1,by rw[e];exact y2,by rw[e];exact y3,by rw[e];exact y4,by rw[e];exact y5,by rw[e];exact y6,by rw[e];exact y7⟩,z8S aJ hW am⟩
 have be:Hid (∀k,k<fs.length->Cn.rangesA (fun i _=>(i:Int)) 1 (fs.take (k+1))=Cn.rangesA (fun i _=>(i:Int)) 1 (fs.take k)++Cn.spoken (fs.getD k Cn.none) ((1+k:Nat):Int)/\fs.take (k+1)=fs.take k++[fs.getD k Cn.none]):=fun k hk=>by
  have e:fs.take (k+1)=fs.take k++[fs.getD k Cn.none]:=by
   rw[List.take_add_one];exact E8V
  rw[e,Cn.x3e,List.length_take,Nat.min_eq_left f6J];exact⟨rfl,rfl⟩
 obtain⟨cS,cH,bK,_,_⟩:=aO.shape;subst bK;go_wp2;go_loopw[5,6,8,15] (fun lv rv _ iv wr=>∃(k:Nat) (ps:List (Rec×Value)),iv=.int .i64 k/\k<=fs.length/\ps.map (·.1)=Cn.none::fs.take k/\ps.length=k+1/\(∃lo cap,lv=.slice lo (k+1) cap/\cap<=9223372036854775807)/\Spst w w1 wr rv lv (Cn.rangesA (fun i _=>(i:Int)) 1 (fs.take k)) ps) (fun _ _ _ iv _=>fs.length-(intOf iv).toNat)
 case atStart=>exact⟨0,[(Cn.none,.slice none 0 0)],rfl,f6J,rfl,rfl,⟨_,_,by first| rfl|(rw[aP];rfl),f6J⟩,by first| exact V ar|(rw[aP];exact V ar)⟩
 case round =>
  obtain⟨k,ps,rfl,hk,q,aj,⟨C,T,rfl,cV⟩,K⟩:=hrel;by_cases aL:k<fs.length
  ·obtain⟨b,P,cG,va,he,aA,bm⟩:=V aq k aL;obtain⟨q1,q2,q3⟩:=Value.slice.inj he;subst q1;obtain⟨aM,N⟩:=V aC (fs.getD k Cn.none) (by simp[List.getD,aL]);obtain⟨bh,bR⟩:=V be k aL;have bL:=V aD k;obtain⟨⟨x0,x1,x2,x3,x4,x5,x6,x7⟩,am⟩:=bm wr K.old;obtain⟨s,L,rfl,_,_⟩:=am.shape;generalize fs.getD k Cn.none=r at *;have cj:Fi (((1+k:Nat):Int)):=⟨f6J,f6J⟩;have bF:=y1f r ((1+k:Nat):Int) aM N;have ci:=Cn.x5b aM N ((1+k:Nat):Int);have bY:(((1+k:Nat):Int))=(k:Int)+1:=f6J;have ay:=K.bel;obtain⟨V1,G⟩:∃V1,wr.alloc (.cells #[.int .i64 r.kind,.int .i64 r.lo,.int .i64 r.hi,.int .i64 r.n,.slice s r.to.length L,.string r.name,.string r.other,.float .f64 r.wt] 67)=V1:=⟨_,rfl⟩;have bw:Bw wr V1:=by rw[<- G];exact(b0r).alloc (l0r _) _
   have az:V1.heap[wr.heap.size]?=some (.cells #[.int .i64 r.kind,.int .i64 r.lo,.int .i64 r.hi,.int .i64 r.n,.slice s r.to.length L,.string r.name,.string r.other,.float .f64 r.wt] 67 (0,0)):=by
    rw[<- G];exact s6Q
   have cY:V1.heap.size=wr.heap.size+1:=(by rw[<- G];exact World.size_alloc _ _);have bS:=K.below bw;have KS:=O (x7g r (.slice s r.to.length L) _ V1 aA (am.below bw) aM N cj);unfold recV at KS;rw[bY]at KS bh bF ci;have KC:Hid (∀W,(∀g,g<w1.heap.size->g≠w.heap.size+1->W.heap[g]?=w1.heap[g]?)->Calls prog 52 #[.slice s r.to.length L] W (x0j W r.to)):=fun W h=>x2T _ r.to W (bm W h).2 aA.len;unfold x0j at KC;have aU:Hid (∀g,(Value.slice C (k+1) T).ownBlock=some g->g<wr.heap.size):=fun g Q=>(K.rcs.1.lt g Q).2;have aX:Hid (∀p∈ps,∀g,p.2.ownBlock=some g->g<wr.heap.size):=fun p hp g Q=>((K.rcs.2 p hp).2.2.lt g Q).2;have bO:Hid (∀g,u6.ownBlock=some g->g<wr.heap.size):=fun g Q=>(K.rng.2.2.lt g Q).2;obtain⟨z0,z1,z2,z3,z4,z5,z6,z7⟩:=x4E az;have cW:∀W a m,(store a (.float .f64 r.wt) m).run prog W=stored prog W a (.float .f64 r.wt) m:=fun W a m=>run_store prog W a _ m rfl;have bP:=O bS;have aQ:=O az;have cP:=K.sz;have cK:=K.s1;generalize hys:Cn.spoken r ((k:Int)+1)=ys,Cn.rangesA (fun i _=>(i:Int)) 1 (fs.take k)=xs at *;obtain⟨J,lo,hi,nn,R,Z,M,X⟩:=r;simp only at *;go_wp2_with fail;refine(V KS).mono ?_;rintro e3 w3 ⟨v3,rfl,bp,aH⟩;obtain⟨g3,bj,rfl,bG⟩:=y9a bp bF;have aG:=(V bP).below aH;have cM:=aG.sz;have cI:=aH.size;have HM:=O aG.rng.2.2;have ba:=O bG;have aW:=O (Ti.x4R ys);have d:Hid (∀v4 w4,w4.ownsRow w1.heap.size 259 3 v4 (xs.length+ys.length) (Ti.rcells xs++Ti.rcells ys)->w3.grownBy w4 u6.ownBlock->Spst w w1 w4 v4 (.slice C (k+1) T) (xs++ys) ps):=fun v4 w4 h1 h2=>aG.ranges bp.1 f6J h1 h2;have aR:Hid (w3.heap[wr.heap.size]?=some (.cells #[.int .i64 J,.int .i64 lo,.int .i64 hi,.int .i64 nn,.slice s R.length L,.string Z,.string M,.float .f64 X] 67 (0,0))):=(aH.block _ f6J).trans (V aQ);go_wp2_with(at_builtin;refine wpList_append_own _ rfl (.tmp 19) (.tmp 23) 203 rfl w1.heap.size 259 i0 (.agg #[.int .i64 0,.int .i64 0,.int .i64 0]) 3 24 underlying203 bV cD cE cF rfl e8Q _ _ _ rfl (V HM) ⟨g3,0,none⟩ ys.length bj (Ti.rcells ys) rfl (by rw[Ti.x1P]) (V ba) (V aW) T7X f6J f6J ?_);intro v4 w4 ce aK _;have bt:=V d v4 w4 ce aK
   have F:w4.heap[wr.heap.size]?=some (.cells #[.int .i64 J,.int .i64 lo,.int .i64 hi,.int .i64 nn,.slice s R.length L,.string Z,.string M,.float .f64 X] 67 (0,0)):=by
    rw[aK.block _ f6J (fun e=>by have:=V bO _ e.symm;exact f6J)];exact V aR
   have cN:=aK.size;have z4:=(x4E F).2.2.2.2.1;have K5:=O (V KC w4 bt.old);have aZ:=O bt;have S:=O F;go_wp2_with fail;refine(V K5).mono ?_;rintro e5 w5 ⟨v5,rfl,l,z⟩;obtain⟨Y,c,cw,_,_⟩:=l.sk.shape;subst cw;have cO:=z.size;have ag:=(V aZ).below z;have H:w5.heap[wr.heap.size]?=some (.cells #[.int .i64 J,.int .i64 lo,.int .i64 hi,.int .i64 nn,.slice s R.length L,.string Z,.string M,.float .f64 X] 67 (0,0)):=(z.block _ f6J).trans (V S);have y4:=(x4E H).2.2.2.2.1;have f4:=x0e (j:=4) H;obtain⟨D,af⟩:∃D,w5.setCell ⟨wr.heap.size,4,none⟩ (.slice Y R.length c)=D:=⟨_,rfl⟩
   have U:D.heap[wr.heap.size]?=some (.cells #[.int .i64 J,.int .i64 lo,.int .i64 hi,.int .i64 nn,.slice Y R.length c,.string Z,.string M,.float .f64 X] 67 (0,0)):=by
    rw[<- af,x0f H];rfl
   have bH:D.heap.size=w5.heap.size:=by rw[<- af];exact x1a _ _ _ _
   have ai:Spst w w1 D v4 (.slice C (k+1) T) (xs++ys) ps:=by
    refine ag.keep (B:=wr.heap.size) f6J (by rw[<- af];exact x0d ag.bel ay.size _) f6J (fun g _ bZ=>by rw[<- af];exact x0g _ bZ) (y9W ag.rng.2.2 H e8Q) (fun e=>by have:=V aU _ e;exact f6J) (fun p hp e=>by have:=V aX p hp _ e;exact f6J)
   have bI:Ok .i32 21 D w.heap.size (.slice Y R.length c) R:=by
    refine(l.lower (by have:=ay.size;exact f6J)).keep fun g Q=>?_;rw[<- af];exact x0g _ (fun e=>by have:=(l.2.2.lt g Q).1;exact f6J)
   obtain⟨s0,s1,s2,s3,s4,s5,s6,s7⟩:=x4E U;have aV:Hid (∀o,(D.alloc o).ownsRow w.heap.size 67 8 (.slice C (k+1) T) (k+1) (rcells ps)):=fun o=>(by have:=ai.rcs.1.alloc o;rw[aj]at this;exact this);have t:Hid (∀j u,(x0y (⟨J,lo,hi,nn,R,Z,M,X⟩,.slice Y R.length c))[j]?=some u->(D.alloc (.cells #[.int .i64 J,.int .i64 lo,.int .i64 hi,.int .i64 nn,.slice Y R.length c,.string Z,.string M,.float .f64 X] 67)).cell? ((⟨D.heap.size,0,none⟩:Addr).add j)=some u):=x5U D D.heap.size rfl ⟨J,lo,hi,nn,R,Z,M,X⟩ _;have ae:=O (x6Q ⟨J,lo,hi,nn,R,Z,M,X⟩ (vt:=.slice Y R.length c) rfl)
   have I:Hid (∀o gg f w8,w8.ownsRow w.heap.size 67 8 (.slice (some ⟨gg,0,none⟩) (k+1+1) f) (k+1+1) (rcells ps++x0y (⟨J,lo,hi,nn,R,Z,M,X⟩,.slice Y R.length c))->(D.alloc o).grownBy w8 (Value.slice C (k+1) T).ownBlock->((Value.slice C (k+1) T).ownBlock=some gg\/gg=D.heap.size+1)->Spst w w1 w8 v4 (.slice (some ⟨gg,0,none⟩) (k+1+1) f) (xs++ys) (ps++[(⟨J,lo,hi,nn,R,Z,M,X⟩,.slice Y R.length c)])):=fun o gg f w8 h1 h2 h3=>by
    have h:=ai.more (r:=⟨J,lo,hi,nn,R,Z,M,X⟩) bI (gg:=gg) (cap:=f) (by rw[aj];exact h1) h2 h3;rw[aj]at h;exact h
   have cL:=ai.bel.size;clear K5 l z ag H U ai bI aZ S aU aX bH;go_wp2_with(at_builtin;refine wpList_append_lies _ rfl (.tmp 29) (.tmp 31) 23 rfl w.heap.size 67 i1 (.agg #[.int .i64 0,.int .i64 0,.int .i64 0,.int .i64 0,.slice none 0 0,.string ⟨#[]⟩,.string ⟨#[]⟩,.float .f64 0]) 8 96 underlying23 bX cz cB cC rfl e8Q _ _ _ rfl (V aV _) ⟨D.heap.size,0,none⟩ 1 1 (x0y (⟨J,lo,hi,nn,R,Z,M,X⟩,.slice Y R.length c)) rfl rfl (V t) (V ae) f6J T7X f6J P8P (D.heap.size+1) (by simp) ?_);intro gg f w8 aN bC aw cJ;have bu:=V I _ gg f w8 aN bC aw
   have aI:f<=9223372036854775807:=by
    rcases aN.2 with⟨h0,_⟩ | ⟨_,_,_,h0,_,_,_,h1,_⟩
    ·cases h0
    ·obtain⟨_,_,e3⟩:=Value.slice.inj h0;rw[e3];unfold maxLen at h1;omega
   have bQ:=O bu;clear aV t ae I aN bC aw bu s0 s1 s2 s3 s4 s5 s6 s7 y4 f4 z4;go_wp2
   go_roundw
   case rel=>exact⟨k+1,ps++[(⟨J,lo,hi,nn,R,Z,M,X⟩,.slice Y R.length c)],g2D,f6J,by rw[List.map_append,q,bR];rfl,by rw[List.length_append,aj];rfl,⟨_,_,rfl,aI⟩,by rw[bh];exact V bQ⟩
   case measure=>exact g7V
  ·obtain rfl:k=fs.length:=f6J;rw[List.take_of_length_le (l0r _)]at K q;have bL:=V aD fs.length;rw[List.take_of_length_le (l0r _)]at bL;have KB:=O (y4m _ wr u6 _ K.rng f6J (V A));unfold y6g at KB;have HS:=O K;obtain⟨ro,cQ,cf,_,_⟩:=K.rng.sr.shape;subst cf;clear K aq be aC aD A;go_wp2_with fail;refine(V KB).mono ?_;rintro e9 w9 ⟨a,m,rfl,p1,p2,hT,bD⟩;obtain⟨F1,F2,F3,F4,F5⟩:=(V HS).fin bD hT;have y0:=cell_of (j:=0) F1 (by show 0<2;exact f6J);have y1:=cell_of (j:=1) F1 w2h;have f0:=fun j=>x0e (j:=j) F1;have aS:=O F2;have HF:SpkB w fs (.returned (.agg #[.pointer (some a),.slice C (fs.length+1) T])) _:=⟨a,m,_,ps,rfl,p1,p2,F3,F4,q,F5⟩;have aT:=O HF;clear KB hT bD F1 F2 F3 F4 F5 HF HS p1 p2;go_wp2;have aB:=V aS;have bB:=V aT;clear aS aT y0 y1 f0;generalize(w9.setCell ⟨w.heap.size,0,none⟩ (.pointer (some a))).setCell ⟨w.heap.size,1,none⟩ (.slice C (fs.length+1) T)=cZ at *;have z0:=cell_of (j:=0) aB (by show 0<2;exact f6J);have z1:=cell_of (j:=1) aB w2h;refine bodyPost_ret (v:=.agg #[.pointer (some a),.slice C (fs.length+1) T]) (by simp[results,Tryz.results87,go_sem,z0,z1]) rfl bB
open Ti
def TrP(W:World)(B:Nat)(v:Value)(xs:List Tri.Rg):Prop:=∃a m,v=.pointer (some a)/\m.Perm xs/\(m.Pairwise fun x y=>Tri.lo x<=Tri.lo y)/\T4 W B v m 0
def SpP(W:World)(B:Nat)(v vl:Value)(fs:List Rec):Prop:=TrP W B v (Cn.rangesA (fun i _=>(i:Int)) 1 fs)/\∃ps,Rown W B vl ps/\ps.map (·.1)=Cn.none::fs
def CoP(W:World)(B:Nat)(c1 c2:Value)(rs:List Rec):Prop:=∃r1 r2,c1=.map (some r1)/\c2=.map (some r2)/\B<=r1/\B<=r2/\GAt KP W r1 (x3u rs)/\GAt KR W r2 (secC rs)
def MiP(W:World)(B:Nat)(x:Value):Prop:=∃r,x=.map (some r)/\B<=r/\MxAt W r
theorem x6w{W:World}{g:Nat}{o:Obj}(h:W.heap[g]?=some o):g<W.heap.size:=by grind
section
variable {W W':World} {B B':Nat} {v vl c1 c2 x:Value} {xs:List Tri.Rg} {fs rs:List Rec}
theorem TrP.below(h:TrP W B v xs)(C:Bw W W'):TrP W' B v xs:=by
 obtain⟨a,m,e,p,s,t⟩:=h;exact⟨a,m,e,p,s,t.below C⟩
theorem TrP.lower(h:TrP W B v xs)(C:B'<=B):TrP W B' v xs:=by
 obtain⟨a,m,e,p,s,t⟩:=h;exact⟨a,m,e,p,s,T4.lower t C⟩
theorem y9F{w:World}{B B' e K n:Nat}{v:Value}{us:List Value}(h:w.ownsRow B e K v n us)(C:B'<=B):w.ownsRow B' e K v n us:=by
 refine⟨h.1,?_⟩;rcases h.2 with H | ⟨g,cap,P,N,Y,r⟩
 ·exact .inl H
 ·exact .inr ⟨g,cap,P,N,f6J,r⟩
theorem SpP.below(h:SpP W B v vl fs)(C:Bw W W'):SpP W' B v vl fs:=by
 obtain⟨t,ps,u,e⟩:=h;exact⟨t.below C,ps,⟨x0u u.1 fun g Y=>C.block g (u.1.lt g Y).2,fun p A=>(u.2 p A).below C⟩,e⟩
theorem SpP.lower(h:SpP W B v vl fs)(C:B'<=B):SpP W B' v vl fs:=by
 obtain⟨t,ps,u,e⟩:=h;exact⟨t.lower C,ps,⟨y9F u.1 C,fun p A=>(u.2 p A).lower C⟩,e⟩
theorem GAt.below{K:Value->Prop}{r:Nat}{c:Value->Option Value}(h:GAt K W r c)(C:Bw W W'):GAt K W' r c:=by
 obtain⟨A,i,D,Z⟩:=h;exact⟨A,i,by rw[C.block r (x6w D)];exact D,Z⟩
theorem CoP.below(h:CoP W B c1 c2 rs)(C:Bw W W'):CoP W' B c1 c2 rs:=by
 obtain⟨E,r2,N,f,b1,m,i,U⟩:=h;exact⟨E,r2,N,f,b1,m,i.below C,U.below C⟩
theorem CoP.lower(h:CoP W B c1 c2 rs)(C:B'<=B):CoP W B' c1 c2 rs:=by
 obtain⟨E,r2,N,f,b1,m,i,U⟩:=h;exact⟨E,r2,N,f,f6J,f6J,i,U⟩
theorem MiP.below(h:MiP W B x)(C:Bw W W'):MiP W' B x:=by
 obtain⟨r,e,b,c,g⟩:=h;exact⟨r,e,b,c,g.below C⟩
theorem MiP.lower(h:MiP W B x)(C:B'<=B):MiP W B' x:=by
 obtain⟨r,e,b,c⟩:=h;exact⟨r,e,f6J,c⟩
end
structure DataV(W:World)(B:Nat)(rs:List Rec)(t1 t2 t3 t4 t5 a1 l1 a2 l2 a3 l3 a4 l4 a5 l5 c1 c2 x1:Value):Prop where
 p1:TrP W B t1 (Cn.rangesA (fun _ r=>Cn.value r) 1 (Cn.famOf 1 rs))
 p2:TrP W B t2 (Cn.rangesA (fun _ r=>Cn.value r) 1 (Cn.famOf 2 rs))
 p3:TrP W B t3 (Cn.rangesA (fun _ r=>Cn.value r) 1 (Cn.famOf 4 rs))
 p4:TrP W B t4 (Cn.rangesA (fun _ r=>Cn.value r) 1 (Cn.famOf 5 rs))
 p5:TrP W B t5 (Cn.rangesA (fun _ r=>Cn.value r) 1 (Cn.famOf 6 rs))
 q1:SpP W B a1 l1 (Cn.famOf 1 rs)
 q2:SpP W B a2 l2 (Cn.famOf 3 rs)
 q3:SpP W B a3 l3 (Cn.famOf 7 rs)
 q4:SpP W B a4 l4 (Cn.famOf 8 rs)
 q5:SpP W B a5 l5 (Cn.famOf 9 rs)
 co:CoP W B c1 c2 rs
 mi:MiP W B x1
theorem DataV.below{W W':World}{B:Nat}{rs:List Rec}{y S t E Y A D J n d g M T H o c1 c2 u:Value}(h:DataV W B rs y S t E Y A D J n d g M T H o c1 c2 u)(C:Bw W W'):DataV W' B rs y S t E Y A D J n d g M T H o c1 c2 u:=⟨h.p1.below C,h.p2.below C,h.p3.below C,h.p4.below C,h.p5.below C,h.q1.below C,h.q2.below C,h.q3.below C,h.q4.below C,h.q5.below C,h.co.below C,h.mi.below C⟩
def x0n(W:World)(B p:Nat)(rs:List Rec):Prop:=∃t1 t2 t3 t4 t5 a1 l1 a2 l2 a3 l3 a4 l4 a5 l5 c1 c2 x1:Value,W.heap[p]?=some (.cells #[t1,t2,t3,t4,t5,a1,l1,a2,l2,a3,l3,a4,l4,a5,l5,c1,c2,x1] 156 (0,0))/\B<=p/\DataV W B rs t1 t2 t3 t4 t5 a1 l1 a2 l2 a3 l3 a4 l4 a5 l5 c1 c2 x1
theorem x0n.below{W W':World}{B p:Nat}{rs:List Rec}(h:x0n W B p rs)(C:Bw W W'):x0n W' B p rs:=by
 obtain⟨y,S,t,F,Y,A,E,J,n,d,g,M,T,H,o,c1,c2,u,D,Z,R⟩:=h;exact⟨y,S,t,F,Y,A,E,J,n,d,g,M,T,H,o,c1,c2,u,by rw[C.block p (x6w D)];exact D,Z,R.below C⟩
def CmdB(w:World)(rs:List Rec)(e:Ending)(w':World):Prop:=∃p,e=.returned (.pointer (some ⟨p,0,none⟩))/\x0n w' w.heap.size p rs/\Below w.heap.size w w'
theorem x9V(v:Value)(rs:List Rec)(w:World)(hg:Glob w)(N:Rcs w v rs)(hc:(Cn.check6 rs).2=0)(K:∀r∈rs,r.kind≠15->0<=Cn.value r/\Cn.value r<=65535)(h7:∀r∈rs,r.kind=7->r.to.length=2/\0<=r.lo/\r.lo<=1114111)(aR:∀r∈rs,r.kind=15->Sh r.name/\Sh r.other):Calls prog 46 #[v] w (CmdB w rs):=by
 obtain⟨hl,S,_⟩:=Cn.x0m.1 hc;have b:∀f:Int,f≠10->∀r∈Cn.famOf f rs,r.kind≠15:=fun f hf r u e=>hf (by rw[<- (Cn.x0r.1 u).2,e];exact e8N);have az:∀f,(Cn.famOf f rs).length<=4096:=fun f=>Nat.le_trans (List.length_filter_le _ _) hl
 have X:∀(ab f:Int),Cn.fam ab=f->f≠10->f≠0->I64 ab->Hid (∀W,Bw w W->Calls prog 86 #[v,.int .i64 ab] W (x6b W (Cn.rangesA (fun _ r=>Cn.value r) 1 (Cn.famOf f rs)))):=fun ab f e1 e2 e3 e4 W t=>by
  subst e1;refine y1m v rs ab W (hg.on t) (N.below t) e4 (fun r u=>?_) (az _) (fun m hp hs=>(Cn.y2I (Cn.y1R hc ⟨e2,e3⟩) (fun k hk=>?_) hp hs).1)
  ·have:=K r (Cn.x0r.1 u).1 (b _ e2 r u);exact⟨S r (Cn.x0r.1 u).1,b _ e2 r u,f6J,f6J⟩
  ·exact K _ (Cn.x0r.1 (List.getElem_mem hk)).1 (b _ e2 _ (List.getElem_mem hk))
 have T:∀(ab f:Int),Cn.fam ab=f->f≠10->f≠0->I64 ab->Hid (∀W,Bw w W->Calls prog 87 #[v,.int .i64 ab] W (SpkB W (Cn.famOf f rs))):=fun ab f e1 e2 e3 e4 W t=>by
  subst e1;refine x7E v rs ab W (hg.on t) (N.below t) e4 (fun r u=>⟨S r (Cn.x0r.1 u).1,b _ e2 r u⟩) (az _) (fun m hp hs=>(Cn.x8f hc ⟨e2,e3⟩ hp hs).1)
 have KC:Hid (∀W,Bw w W->Calls prog 88 #[v] W (CmpB W rs)):=fun W t=>x4a v rs W (N.below t) h7 hl;have KM:Hid (∀W,Bw w W->Calls prog 89 #[v] W (MxtB W)):=fun W t=>x7B v rs W (N.below t) aR;have V1:=X 1 1 e8N e8N e8N ⟨f6J,f6J⟩;have V2:=X 6 2 e8N e8N e8N ⟨f6J,f6J⟩;have V3:=X 9 4 e8N e8N e8N ⟨f6J,f6J⟩;have V4:=X 10 5 e8N e8N e8N ⟨f6J,f6J⟩;have V5:=X 11 6 e8N e8N e8N ⟨f6J,f6J⟩;have P1:=T 3 1 e8N e8N e8N ⟨f6J,f6J⟩;have P2:=T 7 3 e8N e8N e8N ⟨f6J,f6J⟩;have P3:=T 12 7 e8N e8N e8N ⟨f6J,f6J⟩;have P4:=T 13 8 e8N e8N e8N ⟨f6J,f6J⟩;have P5:=T 14 9 e8N e8N e8N ⟨f6J,f6J⟩;obtain⟨ao,cap,aT,_,_⟩:=N.shape;subst aT;have ai:=O (Below.refl w.heap.size w);go_enter func46,ntmps46;go_wp2_with fail;refine(V V1 _ (V ai)).mono ?_;rintro e1 w1 ⟨b1,m1,rfl,u1,u2,u3,aS⟩;have aj:=O (x0b (V ai) aS);have A:Hid (TrP w1 w.heap.size (.pointer (some b1)) (Cn.rangesA (fun _ r=>Cn.value r) 1 (Cn.famOf 1 rs))):=TrP.lower ⟨_,_,rfl,u1,u2,u3⟩ (V ai).size;go_wp2_with fail;refine(V V2 _ (V aj)).mono ?_;rintro e2 w2 ⟨b2,m2,rfl,u1,u2,u3,ay⟩;have d:=O (x0b (V aj) ay);have L:Hid (TrP w2 w.heap.size (.pointer (some b2)) (Cn.rangesA (fun _ r=>Cn.value r) 1 (Cn.famOf 2 rs))):=TrP.lower ⟨_,_,rfl,u1,u2,u3⟩ (V aj).size;replace A:=O ((V A).below ay);go_wp2_with fail;refine(V V3 _ (V d)).mono ?_;rintro e3 w3 ⟨b3,m3,rfl,u1,u2,u3,U⟩;have I:=O (x0b (V d) U);have C:Hid (TrP w3 w.heap.size (.pointer (some b3)) (Cn.rangesA (fun _ r=>Cn.value r) 1 (Cn.famOf 4 rs))):=TrP.lower ⟨_,_,rfl,u1,u2,u3⟩ (V d).size;replace A:=O ((V A).below U);replace L:=O ((V L).below U);go_wp2_with fail;refine(V V4 _ (V I)).mono ?_;rintro e4 w4 ⟨b4,m4,rfl,u1,u2,u3,af⟩;have am:=O (x0b (V I) af);have H:Hid (TrP w4 w.heap.size (.pointer (some b4)) (Cn.rangesA (fun _ r=>Cn.value r) 1 (Cn.famOf 5 rs))):=TrP.lower ⟨_,_,rfl,u1,u2,u3⟩ (V I).size;replace A:=O ((V A).below af);replace L:=O ((V L).below af);replace C:=O ((V C).below af);go_wp2_with fail;refine(V V5 _ (V am)).mono ?_;rintro e5 w5 ⟨b5,m5,rfl,u1,u2,u3,z⟩;have Q:=O (x0b (V am) z);have J:Hid (TrP w5 w.heap.size (.pointer (some b5)) (Cn.rangesA (fun _ r=>Cn.value r) 1 (Cn.famOf 6 rs))):=TrP.lower ⟨_,_,rfl,u1,u2,u3⟩ (V am).size;replace A:=O ((V A).below z);replace L:=O ((V L).below z);replace C:=O ((V C).below z);replace H:=O ((V H).below z);go_wp2_with fail;refine(V P1 _ (V Q)).mono ?_;rintro e6 w6 ⟨g1,n1,y1,bm,rfl,u1,u2,u3,u4,u5,i⟩;have aq:=O (x0b (V Q) i);have P:Hid (SpP w6 w.heap.size (.pointer (some g1)) y1 (Cn.famOf 1 rs)):=SpP.lower ⟨⟨_,_,rfl,u1,u2,u3⟩,_,u4,u5⟩ (V Q).size
 obtain⟨aL,aG,aA,aU⟩:∃o l c,y1=.slice o l c:=f4w
 subst aU;replace A:=O ((V A).below i);replace L:=O ((V L).below i);replace C:=O ((V C).below i);replace H:=O ((V H).below i);replace J:=O ((V J).below i);go_wp2_with fail;refine(V P2 _ (V aq)).mono ?_;rintro e7 w7 ⟨g2,n2,y2,bn,rfl,u1,u2,u3,u4,u5,R⟩;have n:=O (x0b (V aq) R);have Z:Hid (SpP w7 w.heap.size (.pointer (some g2)) y2 (Cn.famOf 3 rs)):=SpP.lower ⟨⟨_,_,rfl,u1,u2,u3⟩,_,u4,u5⟩ (V aq).size
 obtain⟨aM,aH,aB,aV⟩:∃o l c,y2=.slice o l c:=f4w
 subst aV;replace A:=O ((V A).below R);replace L:=O ((V L).below R);replace C:=O ((V C).below R);replace H:=O ((V H).below R);replace J:=O ((V J).below R);replace P:=O ((V P).below R);go_wp2_with fail;refine(V P3 _ (V n)).mono ?_;rintro e8 w8 ⟨g3,n3,y3,bp,rfl,u1,u2,u3,u4,u5,G⟩;have ar:=O (x0b (V n) G);have Y:Hid (SpP w8 w.heap.size (.pointer (some g3)) y3 (Cn.famOf 7 rs)):=SpP.lower ⟨⟨_,_,rfl,u1,u2,u3⟩,_,u4,u5⟩ (V n).size
 obtain⟨aN,aI,aC,aW⟩:∃o l c,y3=.slice o l c:=f4w
 subst aW;replace A:=O ((V A).below G);replace L:=O ((V L).below G);replace C:=O ((V C).below G);replace H:=O ((V H).below G);replace J:=O ((V J).below G);replace P:=O ((V P).below G);replace Z:=O ((V Z).below G);go_wp2_with fail;refine(V P4 _ (V ar)).mono ?_;rintro e9 w9 ⟨g4,n4,y4,bt,rfl,u1,u2,u3,u4,u5,ae⟩;have aw:=O (x0b (V ar) ae);have a:Hid (SpP w9 w.heap.size (.pointer (some g4)) y4 (Cn.famOf 8 rs)):=SpP.lower ⟨⟨_,_,rfl,u1,u2,u3⟩,_,u4,u5⟩ (V ar).size
 obtain⟨aO,aJ,aD,aX⟩:∃o l c,y4=.slice o l c:=f4w
 subst aX;replace A:=O ((V A).below ae);replace L:=O ((V L).below ae);replace C:=O ((V C).below ae);replace H:=O ((V H).below ae);replace J:=O ((V J).below ae);replace P:=O ((V P).below ae);replace Z:=O ((V Z).below ae);replace Y:=O ((V Y).below ae);go_wp2_with fail;refine(V P5 _ (V aw)).mono ?_;rintro be aZ ⟨g5,n5,y5,bu,rfl,u1,u2,u3,u4,u5,D⟩;have q:=O (x0b (V aw) D);have y:Hid (SpP aZ w.heap.size (.pointer (some g5)) y5 (Cn.famOf 9 rs)):=SpP.lower ⟨⟨_,_,rfl,u1,u2,u3⟩,_,u4,u5⟩ (V aw).size
 obtain⟨aP,aK,aF,aY⟩:∃o l c,y5=.slice o l c:=f4w
 subst aY;replace A:=O ((V A).below D);replace L:=O ((V L).below D);replace C:=O ((V C).below D);replace H:=O ((V H).below D);replace J:=O ((V J).below D);replace P:=O ((V P).below D);replace Z:=O ((V Z).below D);replace Y:=O ((V Y).below D);replace a:=O ((V a).below D);go_wp2_with fail;refine(V KC _ (V q)).mono ?_;rintro bh ba ⟨r1,r2,rfl,u1,u2,u3,u4,M⟩;have s:=O (x0b (V q) M);have F:Hid (CoP ba w.heap.size (.map (some r1)) (.map (some r2)) rs):=CoP.lower ⟨_,_,rfl,rfl,u1,u2,u3,u4⟩ (V q).size;replace A:=O ((V A).below M);replace L:=O ((V L).below M);replace C:=O ((V C).below M);replace H:=O ((V H).below M);replace J:=O ((V J).below M);replace P:=O ((V P).below M);replace Z:=O ((V Z).below M);replace Y:=O ((V Y).below M);replace a:=O ((V a).below M);replace y:=O ((V y).below M);go_wp2_with fail;refine(V KM _ (V s)).mono ?_;rintro bj g ⟨r3,rfl,u1,u2,E⟩;have ag:=O (x0b (V s) E);have aQ:Hid (MiP g w.heap.size (.map (some r3))):=MiP.lower ⟨_,rfl,u1,u2⟩ (V s).size;replace A:=O ((V A).below E);replace L:=O ((V L).below E);replace C:=O ((V C).below E);replace H:=O ((V H).below E);replace J:=O ((V J).below E);replace P:=O ((V P).below E);replace Z:=O ((V Z).below E);replace Y:=O ((V Y).below E);replace a:=O ((V a).below E);replace y:=O ((V y).below E);replace F:=O ((V F).below E)
 have HF:Hid (CmdB w rs (.returned (.pointer (some ⟨g.heap.size,0,none⟩))) (g.alloc (.cells #[.pointer (some b1),.pointer (some b2),.pointer (some b3),.pointer (some b4),.pointer (some b5),.pointer (some g1),.slice aL aG aA,.pointer (some g2),.slice aM aH aB,.pointer (some g3),.slice aN aI aC,.pointer (some g4),.slice aO aJ aD,.pointer (some g5),.slice aP aK aF,.map (some r1),.map (some r2),.map (some r3)] 156))):=by
  have j:Bw g (g.alloc (.cells #[.pointer (some b1),.pointer (some b2),.pointer (some b3),.pointer (some b4),.pointer (some b5),.pointer (some g1),.slice aL aG aA,.pointer (some g2),.slice aM aH aB,.pointer (some g3),.slice aN aI aC,.pointer (some g4),.slice aO aJ aD,.pointer (some g5),.slice aP aK aF,.map (some r1),.map (some r2),.map (some r3)] 156)):=(b0r).alloc (l0r _) _;refine⟨_,rfl,⟨_,_,_,_,_,_,_,_,_,_,_,_,_,_,_,_,_,_,?_,(V ag).size,(V A).below j,(V L).below j,(V C).below j,(V H).below j,(V J).below j,(V P).below j,(V Z).below j,(V Y).below j,(V a).below j,(V y).below j,(V F).below j,(V aQ).below j⟩,x0b (V ag) j⟩;show(g.heap.push _)[g.heap.size]?=_;simp
 exact I7o
def CpB(w:World)(rs:List Rec)(e:Ending)(w':World):Prop:=Below w.heap.size w w'/\((¬(Cn.check rs).2=0/\e=.returned (.tuple #[.pointer none,.int .i64 ((Cn.check rs).1:Int),.int .i64 (Cn.check rs).2]))\/((Cn.check rs).2=0/\∃p,e=.returned (.tuple #[.pointer (some ⟨p,0,none⟩),.int .i64 0,.int .i64 0])/\x0n w' w.heap.size p rs))
theorem x9U(v:Value)(rs:List Rec)(w:World)(N:Rcs w v rs)(Z:Calls prog 45 #[v] w (x3U w (Cn.check rs)))(s:(Cn.check rs).2=0->∀W,Bw w W->Calls prog 46 #[v] W (CmdB W rs)):Calls prog 24 #[v] w (CpB w rs):=by
 have i:=O Z;unfold x3U at i;have s:=O s;obtain⟨ao,cap,G,_,_⟩:=N.shape;unfold CpB;by_cases h:(Cn.check rs).2=0
 ·have I:=O (V s h);have L:=O h;generalize hck:Cn.check rs=q at *;obtain⟨P,K⟩:=q;simp only at h;subst h;subst G;go_enter func24,ntmps24;go_wp2_with fail;refine c0m i fun w1 E=>?_;have j:=O (V I w1 E);have l:=O E;go_wp2_with fail;refine(V j).mono ?_;rintro f m ⟨p,rfl,b,F⟩;have d:=O (x0b (V l) F)
  have c:Hid (x0n m w.heap.size p rs):=by
   obtain⟨y,S,t,a,Y,A,U,J,n,Q,g,M,T,H,o,c1,c2,u,D,r,R⟩:=b;have X:=(V l).size;exact⟨y,S,t,a,Y,A,U,J,n,Q,g,M,T,H,o,c1,c2,u,D,f6J,R.p1.lower X,R.p2.lower X,R.p3.lower X,R.p4.lower X,R.p5.lower X,R.q1.lower X,R.q2.lower X,R.q3.lower X,R.q4.lower X,R.q5.lower X,R.co.lower X,R.mi.lower X⟩
  go_wp2;go_ret3;exact⟨V d,.inr ⟨V L,p,rfl,V c⟩⟩
 ·have L:=O h;generalize hck:Cn.check rs=q at *;obtain⟨P,K⟩:=q;simp only at h;have z:(K != 0)=true:=bne_iff_ne.2 h;subst G;go_enter func24,ntmps24;go_wp2_with fail;refine c0m i fun w1 E=>?_;have l:=O E;go_wp2;go_ret3;exact⟨V l,.inl ⟨V L,rfl⟩⟩
open Ti
namespace Cn
theorem x5g{r:Rec}{a b c d:Bool}(h:bare r false a b c d=true):r.n=0:=by
 unfold bare at h;simp only[Bool.and_eq_true,Bool.false_or,decide_eq_true_eq]at h;exact h.1.1.1.1
theorem y0U{r:Rec}(h:right r=0)(G:r.kind≠15)(D:r.kind≠4):0<=r.n/\r.n<=254:=by
 have z:=x0v h
 have T:1<=r.kind/\r.kind<=15:=by
  unfold fam at z;split at z
  ·exact absurd rfl z
  ·omega
 unfold right at h;rw[if_neg z,if_neg G]at h;have I:=x1y h;rw[Bool.and_eq_true]at I;have Z:=I.2;by_cases M:r.kind=1\/r.kind=2\/r.kind=11
 ·rw[if_pos M]at Z;have:=x5g Z;omega
 rw[if_neg M]at Z;by_cases q:r.kind=3
 ·rw[if_pos q]at Z;exact W4H
 rw[if_neg q,if_neg D]at Z;by_cases F:r.kind=5
 ·rw[if_pos F]at Z;exact E4e
 rw[if_neg F]at Z;by_cases E:r.kind=13
 ·rw[if_pos E]at Z;exact E4e
 rw[if_neg E]at Z;by_cases J:r.kind=6
 ·grind
 rw[if_neg J]at Z;by_cases H:r.kind=7
 ·rw[if_pos H]at Z;exact E4e
 rw[if_neg H]at Z;by_cases C:r.kind=8
 ·rw[if_pos C]at Z;exact E4e
 rw[if_neg C]at Z;by_cases S:r.kind=9
 ·grind
 rw[if_neg S]at Z;by_cases Q:r.kind=10
 ·grind
 rw[if_neg Q]at Z;by_cases A:r.kind=12
 ·rw[if_pos A]at Z;exact W4H
 rw[if_neg A]at Z;exact W4H
theorem x6U{r:Rec}(h:right r=0)(G:r.kind≠15):0<=value r/\value r<=65535:=by
 unfold value;split
 ·omega
 ·split
  ·omega
  ·split
   ·omega
   ·rename_i h34
    split
    ·omega
    ·split
     ·omega
     ·have:=y0U h G (fun e=>h34 (.inr e));omega
theorem x8a{b:ByteArray}(h:nameL b=true):b.size=4:=by
 unfold nameL at h;split at h
 ·rename_i a b c d he
  have:=congrArg List.length he;exact W2K
 ·cases h
theorem y9C{r:Rec}(h:right r=0)(f:r.kind=15):r.name.size=4/\r.other.size=4:=by
 have z:=x0v h;unfold right at h;rw[if_neg z,if_pos f]at h;obtain⟨_,_,_,D,Z,_⟩:=x1y h;exact⟨x8a D,x8a Z⟩
theorem x3g{c:Int}(h:scalar c=true):0<=c/\c<=1114111:=by
 unfold scalar at h;have:=o0d h;omega
end Cn
theorem y1H(v:Value)(rs:List Rec)(w:World)(Y:Glob w)(N:Rcs w v rs):Calls prog 24 #[v] w (CpB w rs):=by
 refine x9U v rs w N (z6S v rs w Y N) fun T W t=>?_;have F:=(Cn.x1i.1 T).1;obtain⟨_,S,_⟩:=Cn.x0m.1 F;refine x9V v rs W (Y.on t) (N.below t) F (fun r u G=>Cn.x6U (S r u) G) (fun r u C=>?_) (fun r u f=>?_)
 ·obtain⟨_,Z,R⟩:=Cn.x0A (S r u) C;have H:=(Cn.x0t R).1;have A:=Cn.x3g Z;exact⟨f6J,A.1,A.2⟩
 ·obtain⟨D,Z⟩:=Cn.y9C (S r u) f;exact⟨by unfold Sh;exact f6J,by unfold Sh;exact f6J⟩
section
variable {W W':World} {B p:Nat} {v vl c1 c2 x:Value} {xs:List Tri.Rg} {fs rs:List Rec}
theorem TrP.keep(h:TrP W B v xs)(X:W.heap.size<=W'.heap.size)(G:∀k,B<=k->k<W.heap.size->W'.heap[k]?=W.heap[k]?):TrP W' B v xs:=by
 obtain⟨a,m,e,p,s,t⟩:=h;exact⟨a,m,e,p,s,T4.keep t X G⟩
theorem SpP.keep(h:SpP W B v vl fs)(X:W.heap.size<=W'.heap.size)(G:∀k,B<=k->k<W.heap.size->W'.heap[k]?=W.heap[k]?):SpP W' B v vl fs:=by
 obtain⟨t,ps,u,e⟩:=h;exact⟨t.keep X G,ps,⟨x5W u.1 G,fun p A=>⟨(u.2 p A).1,(u.2 p A).2.1,x5W (u.2 p A).2.2 G⟩⟩,e⟩
theorem GAt.keep{K:Value->Prop}{r:Nat}{c:Value->Option Value}(h:GAt K W r c)(hr:B<=r)(G:∀k,B<=k->k<W.heap.size->W'.heap[k]?=W.heap[k]?):GAt K W' r c:=by
 obtain⟨A,i,D,Z⟩:=h;exact⟨A,i,by rw[G r hr (x6w D)];exact D,Z⟩
theorem x0n.keep(h:x0n W B p rs)(X:W.heap.size<=W'.heap.size)(G:∀k,B<=k->k<W.heap.size->W'.heap[k]?=W.heap[k]?):x0n W' B p rs:=by
 obtain⟨y,S,t,I,Y,A,C,J,n,d,F,M,T,H,o,c1,c2,u,D,Z,R⟩:=h;refine⟨y,S,t,I,Y,A,C,J,n,d,F,M,T,H,o,c1,c2,u,by rw[G p Z (x6w D)];exact D,Z,⟨R.p1.keep X G,R.p2.keep X G,R.p3.keep X G,R.p4.keep X G,R.p5.keep X G,R.q1.keep X G,R.q2.keep X G,R.q3.keep X G,R.q4.keep X G,R.q5.keep X G,?_,?_⟩⟩
 ·obtain⟨E,r2,N,f,b1,m,i,U⟩:=R.co;exact⟨E,r2,N,f,b1,m,i.keep b1 G,U.keep m G⟩
 ·obtain⟨r,e,b,c,g⟩:=R.mi;exact⟨r,e,b,c,g.keep b G⟩
theorem x0n.lower{B':Nat}(h:x0n W B p rs)(X:B'<=B):x0n W B' p rs:=by
 obtain⟨y,S,t,E,Y,A,C,J,n,d,g,M,T,H,o,c1,c2,u,D,Z,R⟩:=h;exact⟨y,S,t,E,Y,A,C,J,n,d,g,M,T,H,o,c1,c2,u,D,f6J,R.p1.lower X,R.p2.lower X,R.p3.lower X,R.p4.lower X,R.p5.lower X,R.q1.lower X,R.q2.lower X,R.q3.lower X,R.q4.lower X,R.q5.lower X,R.co.lower X,R.mi.lower X⟩
end
open Ti
namespace Cn
def vget(rs:List Rec)(f c:Int):Int:=match hit rs f c with | some r=>value r | Option.none=>0
def rget(rs:List Rec)(f c:Int):Rec:=match hit rs f c with | some r=>r | Option.none=>none
end Cn
def y6f(w:World)(b:Bool)(e:Ending)(w':World):Prop:=e=.returned (.bool b)/\∃m,w'=w.drewN m
theorem tget{W:World}{B:Nat}{t:Value}{rs:List Rec}{f:Int}(D:TrP W B t (Cn.rangesA (fun _ r=>Cn.value r) 1 (Cn.famOf f rs)))(F:(Cn.check6 rs).2=0)(z:f≠10/\f≠0)(c:Int)(I:Fi c):Calls prog 146 #[t,.int .i64 c] W (x1r W (Cn.vget rs f c)):=by
 obtain⟨a,m,e,A,X,E⟩:=D;have S:=(Cn.x0m.1 F).2.1;have N:=Cn.y6b F z (fun r u C=>Cn.x6U (S r u) (fun e=>z.1 (by rw[<- C,e];exact e8M))) A X;have:=get4 t m 0 c W ⟨B,E⟩ I;rw[N.2 c]at this;exact this
theorem x6Z{B p:Nat}{rs:List Rec}(c:Int)(w:World)(b:x0n w B p rs)(F:(Cn.check6 rs).2=0)(I:Rune c):Calls prog 94 #[.pointer (some ⟨p,0,none⟩),.int .i32 c] w (x1r w (Cn.vget rs 1 c)):=by
 obtain⟨y,S,t,N,Y,A,L,J,n,d,g,M,T,H,o,c1,c2,u,D,Z,R⟩:=b;obtain⟨f,Q⟩:=I;have K:=O (tget R.p1 F e8N c ⟨f6J,f6J⟩);have x:w.cell? ⟨p,0,none⟩=some y:=cell_of (j:=0) D (by show 0<18;exact f6J);obtain⟨a,m,e,-⟩:=R.p1;subst e;go_enter func94,ntmps94;exact i5s
theorem x7N{B p:Nat}{rs:List Rec}(c:Int)(w:World)(b:x0n w B p rs)(F:(Cn.check6 rs).2=0)(I:Rune c):Calls prog 98 #[.pointer (some ⟨p,0,none⟩),.int .i32 c] w (x1r w (Cn.vget rs 2 c)):=by
 obtain⟨y,S,t,N,Y,A,L,J,n,d,g,M,T,H,o,c1,c2,u,D,Z,R⟩:=b;obtain⟨f,Q⟩:=I;have K:=O (tget R.p2 F e8N c ⟨f6J,f6J⟩);have x:w.cell? ⟨p,1,none⟩=some S:=cell_of (j:=1) D (by show 1<18;exact f6J);obtain⟨a,m,e,-⟩:=R.p2;subst e;go_enter func98,ntmps98;exact i5s
theorem y6A{B p:Nat}{rs:List Rec}(c:Int)(w:World)(b:x0n w B p rs)(F:(Cn.check6 rs).2=0)(I:Rune c):Calls prog 156 #[.pointer (some ⟨p,0,none⟩),.int .i32 c] w (x1r w (Cn.vget rs 4 c)):=by
 obtain⟨y,S,t,N,Y,A,L,J,n,d,g,M,T,H,o,c1,c2,u,D,Z,R⟩:=b;obtain⟨f,Q⟩:=I;have K:=O (tget R.p3 F e8N c ⟨f6J,f6J⟩);have x:w.cell? ⟨p,2,none⟩=some t:=cell_of (j:=2) D (by show 2<18;exact f6J);obtain⟨a,m,e,-⟩:=R.p3;subst e;go_enter func156,ntmps156;exact i5s
theorem y8k{B p:Nat}{rs:List Rec}(c:Int)(w:World)(b:x0n w B p rs)(F:(Cn.check6 rs).2=0)(I:Rune c):Calls prog 309 #[.pointer (some ⟨p,0,none⟩),.int .i32 c] w (x1r w (Cn.vget rs 5 c)):=by
 obtain⟨y,S,t,L,Y,A,N,J,n,d,g,M,T,H,o,c1,c2,u,D,Z,R⟩:=b;obtain⟨f,Q⟩:=I;have K:=O (tget R.p4 F e8N c ⟨f6J,f6J⟩);have x:w.cell? ⟨p,3,none⟩=some L:=cell_of (j:=3) D (by show 3<18;exact f6J);obtain⟨a,m,e,-⟩:=R.p4;subst e;go_enter func309,ntmps309;exact i5s
theorem y8E{B p:Nat}{rs:List Rec}(c:Int)(w:World)(b:x0n w B p rs)(F:(Cn.check6 rs).2=0)(I:Rune c):Calls prog 209 #[.pointer (some ⟨p,0,none⟩),.int .i32 c] w (y6f w (Cn.vget rs 6 c != 0)):=by
 obtain⟨y,S,t,N,Y,A,L,J,n,d,g,M,T,H,o,c1,c2,u,D,Z,R⟩:=b;obtain⟨f,Q⟩:=I;have K:=O (tget R.p5 F e8N c ⟨f6J,f6J⟩);have x:w.cell? ⟨p,4,none⟩=some Y:=cell_of (j:=4) D (by show 4<18;exact f6J);obtain⟨a,m,e,-⟩:=R.p5;subst e;go_enter func209,ntmps209;exact i5s
namespace Cn
theorem y8q{k f:Int}(h:fam k=f):(f=1->1<=k/\k<=5)/\(f=2->k=6)/\(3<f->k=f+5):=by
 subst h;unfold fam;split
 ·omega
 ·omega
variable {rs:List Rec}
theorem z0n{r:Rec}(h:6<=r.kind)(Z:r.kind≠11):value r=r.n:=by
 unfold value;rw[if_neg f6J,if_neg f6J,if_neg f6J,if_neg f6J,if_neg Z]
theorem z2M(F:(check6 rs).2=0)(c:Int):cls rs c=vget rs 2 c:=by
 unfold cls vget
 cases he:hit rs 2 c with
 | none=>rfl
 | some r =>
  have G:=(y8q ((x1T F e8N r).1 he).2.1).2.1 rfl;exact(z0n f6J f6J).symm
end Cn
structure Ovr(w w1 w4 W:World)(ao:Option Addr)(ps:List (Rec×Value))(k:Nat):Prop where
 sz:W.heap.size=w4.heap.size
 bel:Below w.heap.size w W
 far:∀b,w1.heap.size<=b->W.heap[b]?=w4.heap[b]?
 rcd:ps.length=0\/∃g cur,ao=some ⟨g,0,none⟩/\w.heap.size<=g/\g<w1.heap.size/\W.heap[g]?=some (.cells cur 67 (0,0))/\ps.length*8<=cur.size/\∀i,k<=i->i<ps.length->cur.getD (i*8+4) undef=(ps.getD i (Cn.none,undef)).2
 lst:∀q∈ps,q.1.to≠[]->∃gi capi cur,q.2=.slice (some ⟨gi,0,none⟩) q.1.to.length capi/\w.heap.size<=gi/\gi<w1.heap.size/\W.heap[gi]?=some (.cells cur 21 (0,0))/\q.1.to.length<=cur.size
section
variable {w w1 w4 W:World} {ao:Option Addr} {ps:List (Rec×Value)} {cap k:Nat}
theorem Ovr.start(h:Rown w1 w.heap.size (.slice ao ps.length cap) ps)(C:Bw w w4)(A:Bw w1 w4):Ovr w w1 w4 w4 ao ps 0:=by
 refine⟨rfl,C,fun k _=>rfl,?_,fun q L F=>?_⟩
 ·rcases h.1.2 with⟨_,T⟩ | ⟨g,J,P,E,Y,t,D,I,X,K⟩
  ·exact .inl T
  ·obtain⟨N,_,G⟩:=Value.slice.inj E;have H:g<w1.heap.size:=x6w t;refine .inr ⟨g,P,N,Y,H,by rw[A.block g H];exact t,f6J,fun i _ hi=>?_⟩;have e:=x1v ps i 4 hi f6J;have S:(x0y (ps.getD i (Cn.none,undef)))[4]?=some (ps.getD i (Cn.none,undef)).2:=rfl;rw[S,<- K,List.getElem?_take,if_pos f6J,Array.getElem?_toList]at e;rw[Array.getD_eq_getD_getElem?,e];rfl
 ·have y:=h.2 q L;rcases y.row.2 with⟨_,T⟩ | ⟨g,J,P,E,Y,t,D,I,X,K⟩
  ·grind
  ·have H:=(y.2.2.lt g (by rw[E];rfl)).2;exact⟨g,J,P,E,Y,H,by rw[A.block g H];exact t,f6J⟩
theorem y1a(W:World)(a:Addr)(v:Value):(W.setCell a v).heap.size=W.heap.size:=by
 unfold World.setCell;split<;>simp
theorem Ovr.item(h:Ovr w w1 w4 W ao ps k){A:Nat}{P:Array Value}(i:w.heap.size<=A)(g2:A<w1.heap.size)(t:W.heap[A]?=some (.cells P 21 (0,0)))(j:Nat)(v:Value):Ovr w w1 w4 (W.setCell ⟨A,j,none⟩ v) ao ps k:=by
 refine⟨by rw[y1a];exact h.sz,x0d h.bel i v,fun b C=>by rw[x0g v f6J];exact h.far b C,?_,fun q L F=>?_⟩
 ·rcases h.rcd with T | ⟨c,o,e,M,r,G,D⟩
  ·exact .inl T
  ·refine .inr ⟨c,o,e,M,r,?_,D⟩;rw[x0g v (fun e=>by subst e;rw[t]at G;simp at G)];exact G
 ·obtain⟨c,Z,o,N,f,E,I,d⟩:=h.lst q L F;by_cases Y:c=A
  ·subst Y;rw[t]at I;simp only[Option.some.injEq,Obj.cells.injEq,and_true]at I;subst I;exact⟨c,Z,_,N,f,E,x0f t v,by rw[Array.size_setIfInBounds];exact d⟩
  ·exact⟨c,Z,o,N,f,E,by rw[x0g v Y];exact I,d⟩
theorem y9n(W:World)(g off:Nat)(q:Rec×Value):(putR W g off q).heap.size=W.heap.size:=by
 unfold putR;simp only[y1a]
theorem Ovr.wipe(h:Ovr w w1 w4 W ao ps k){g:Nat}(Y:ao=some ⟨g,0,none⟩)(G:k<ps.length)(q:Rec×Value):Ovr w w1 w4 (putR W g (k*8) q) ao ps (k+1):=by
 rcases h.rcd with T | ⟨c,P,e,i,U,t,X,H⟩
 ·omega
 ·rw[Y]at e;simp only[Option.some.injEq,Addr.mk.injEq,and_true]at e;subst e;refine⟨by rw[y9n];exact h.sz,x8g h.bel i q,fun b C=>by rw[x9r q f6J];exact h.far b C,.inr ⟨g,_,Y,i,U,y9m t q,by rw[y9M];exact X,fun j K z=>?_⟩,fun p A F=>?_⟩
  ·rw[<- H j f6J z];simp only[Array.getD_eq_getD_getElem?];rw[y9L P (k*8) q f6J,if_neg f6J]
  ·obtain⟨D,Z,o,N,f,E,I,d⟩:=h.lst p A F;refine⟨D,Z,o,N,f,E,?_,d⟩;rw[x9r q (fun e=>by subst e;rw[t]at I;simp at I)];exact I
end
namespace Cn
def x1m(r:Rec):Bool :=
  if r.kind=1\/r.kind=2\/r.kind=11 then bare r false false false false false
  else if r.kind=3 then bare r false true false false false&&list r.to 1 24
  else if r.kind=4 then bare r true true false false false&&decide (1<=r.n/\r.n<=64)&&list r.to 1 1&&decide (r.to.getD 0 0+r.hi-r.lo<=1114111/\(r.to.getD 0 0+r.hi-r.lo<55296\/57343<r.to.getD 0 0))
  else if r.kind=5 then decide (r.lo=r.hi)&&scalar r.lo&&bare r false true false false false&&list r.to 0 24
  else if r.kind=13 then decide (r.lo=r.hi)&&scalar r.lo&&bare r false true false false false&&list r.to 1 24
  else if r.kind=6 then bare r true false false false false&&decide (1<=r.n/\r.n<=254)
  else if r.kind=7 then decide (r.lo=r.hi)&&scalar r.lo&&bare r false true false false false&&list r.to 2 2
  else if r.kind=8 then decide (r.lo=r.hi)&&scalar r.lo&&bare r false true false false false&&list r.to 1 2
  else if r.kind=9 then bare r true false false false false&&decide (0<=r.n/\r.n<=10)
  else if r.kind=10 then bare r true false false false false&&decide (0<=r.n/\r.n<=5)
  else if r.kind=12 then bare r false false true false false&&nameL r.name
  else bare r false false false false true&&weight r.wt
theorem y5F{r:Rec}(h:fam r.kind=0):right r=60:=by unfold right;rw[if_pos h]
theorem z2s{r:Rec}(h:r.kind=15):right r=ansG (decide (r.lo=0)&&decide (r.hi=0)&&bare r false false true true true&&nameL r.name&&nameL r.other&&decide (r.name≠r.other)&&weight r.wt):=by
 unfold right ansG;rw[if_neg s8h,if_pos h];simp[and_assoc]
theorem y5E{r:Rec}(T:fam r.kind≠0)(f:r.kind≠15):right r=ansG (decide (0<=r.lo/\r.lo<=r.hi/\r.hi<=1114111)&&x1m r):=by
 unfold right;rw[if_neg T,if_neg f];rfl
theorem y7z{k:Int}(h:fam k≠0):1<=k/\k<=15:=by
 unfold fam at h;split at h
 ·exact absurd rfl h
 ·omega
end Cn
theorem z3B{r:Rec}(h:r.kind=1):Cn.x1m r=(Cn.bare r false false false false false):=by
 unfold Cn.x1m;rw[if_pos f6J]
theorem z3C{r:Rec}(h:r.kind=2):Cn.x1m r=(Cn.bare r false false false false false):=by
 unfold Cn.x1m;rw[if_pos f6J]
theorem z3D{r:Rec}(h:r.kind=3):Cn.x1m r=(Cn.bare r false true false false false&&Cn.list r.to 1 24):=by
 unfold Cn.x1m;rw[if_neg f6J,if_pos f6J]
theorem z8Y{r:Rec}(h:r.kind=4):Cn.x1m r=(Cn.bare r true true false false false&&decide (1<=r.n/\r.n<=64)&&Cn.list r.to 1 1&&decide (r.to.getD 0 0+r.hi-r.lo<=1114111/\(r.to.getD 0 0+r.hi-r.lo<55296\/57343<r.to.getD 0 0))):=by
 unfold Cn.x1m;rw[if_neg f6J,if_neg f6J,if_pos f6J]
theorem z3E{r:Rec}(h:r.kind=5):Cn.x1m r=((decide (r.lo=r.hi)&&Cn.scalar r.lo)&&Cn.bare r false true false false false&&Cn.list r.to 0 24):=by
 unfold Cn.x1m;rw[if_neg f6J,if_neg f6J,if_neg f6J,if_pos f6J]
theorem z3F{r:Rec}(h:r.kind=6):Cn.x1m r=(Cn.bare r true false false false false&&decide (1<=r.n/\r.n<=254)):=by
 unfold Cn.x1m;rw[if_neg f6J,if_neg f6J,if_neg f6J,if_neg f6J,if_neg f6J,if_pos f6J]
theorem z3G{r:Rec}(h:r.kind=7):Cn.x1m r=((decide (r.lo=r.hi)&&Cn.scalar r.lo)&&Cn.bare r false true false false false&&Cn.list r.to 2 2):=by
 unfold Cn.x1m;rw[if_neg f6J,if_neg f6J,if_neg f6J,if_neg f6J,if_neg f6J,if_neg f6J,if_pos f6J]
theorem z3H{r:Rec}(h:r.kind=8):Cn.x1m r=((decide (r.lo=r.hi)&&Cn.scalar r.lo)&&Cn.bare r false true false false false&&Cn.list r.to 1 2):=by
 unfold Cn.x1m;rw[if_neg f6J,if_neg f6J,if_neg f6J,if_neg f6J,if_neg f6J,if_neg f6J,if_neg f6J,if_pos f6J]
theorem z3I{r:Rec}(h:r.kind=9):Cn.x1m r=(Cn.bare r true false false false false&&decide (0<=r.n/\r.n<=10)):=by
 unfold Cn.x1m;rw[if_neg f6J,if_neg f6J,if_neg f6J,if_neg f6J,if_neg f6J,if_neg f6J,if_neg f6J,if_neg f6J,if_pos f6J]
theorem z6k{r:Rec}(h:r.kind=10):Cn.x1m r=(Cn.bare r true false false false false&&decide (0<=r.n/\r.n<=5)):=by
 unfold Cn.x1m;rw[if_neg f6J,if_neg f6J,if_neg f6J,if_neg f6J,if_neg f6J,if_neg f6J,if_neg f6J,if_neg f6J,if_neg f6J,if_pos f6J]
theorem y9Z{r:Rec}(h:r.kind=11):Cn.x1m r=(Cn.bare r false false false false false):=by
 unfold Cn.x1m;rw[if_pos f6J]
theorem z0a{r:Rec}(h:r.kind=12):Cn.x1m r=(Cn.bare r false false true false false&&Cn.nameL r.name):=by
 unfold Cn.x1m;rw[if_neg f6J,if_neg f6J,if_neg f6J,if_neg f6J,if_neg f6J,if_neg f6J,if_neg f6J,if_neg f6J,if_neg f6J,if_neg f6J,if_pos f6J]
theorem z0b{r:Rec}(h:r.kind=13):Cn.x1m r=((decide (r.lo=r.hi)&&Cn.scalar r.lo)&&Cn.bare r false true false false false&&Cn.list r.to 1 24):=by
 unfold Cn.x1m;rw[if_neg f6J,if_neg f6J,if_neg f6J,if_neg f6J,if_pos f6J]
theorem z0c{r:Rec}(h:r.kind=14):Cn.x1m r=(Cn.bare r false false false false true&&Cn.weight r.wt):=by
 unfold Cn.x1m;rw[if_neg f6J,if_neg f6J,if_neg f6J,if_neg f6J,if_neg f6J,if_neg f6J,if_neg f6J,if_neg f6J,if_neg f6J,if_neg f6J,if_neg f6J]
theorem y0S:z2W:=by
 intro r A w z X;obtain⟨ao,q,rfl,E,_⟩:=X.shape;unfold recV;by_cases T:Cn.fam r.kind=0
 ·rw[Cn.y5F T];exact z6c r.kind r.lo r.hi r.n ao r.to.length q r.name r.other r.wt w z.kind T
 ·have Y:Hid (∀W m S u U I,Bw w W->Calls prog 113 #[recV r (.slice ao r.to.length q),.bool m,.bool S,.bool u,.bool U,.bool I] W (x0c W (Cn.bare r m S u U I))):=fun W m S u U I h=>y2t r _ m S u U I W (X.below h);unfold recV at Y;have KN:Hid (∀W,Calls prog 114 #[.string r.name] W fun e R=>e=.returned (.bool (Cn.nameL r.name))/\R=W):=fun W=>x5r r.name W;have y:Hid (∀W,Calls prog 115 #[.float .f64 r.wt] W fun e R=>e=.returned (.bool (Cn.weight r.wt))/\R=W):=fun W=>x9y r.wt W z.wt;by_cases f:r.kind=15
  ·rw[Cn.z2s f];have s:Hid (∀W,Calls prog 114 #[.string r.other] W fun e R=>e=.returned (.bool (Cn.nameL r.other))/\R=W):=fun W=>x5r r.other W;rw[f]at Y ⊢;exact rw_15 r.lo r.hi r.n ao r.to.length q r.name r.other r.wt w z.lo z.hi _ _ _ _ (fun W h=>V Y W false false true true true h) KN s y
  ·have KL:∀a b:Nat,Hid (∀W,Bw w W->Calls prog 117 #[.slice ao r.to.length q,.int .i64 a,.int .i64 b] W fun e R=>e=.returned (.bool (Cn.list r.to a b))/\R=W):=fun a b W h=>y2u _ r.to a b W (X.below h) z.len;have G:=Cn.y7z T;rw[Cn.y5E T f];have Q:Hid (decide (0<=r.lo/\r.lo<=r.hi/\r.hi<=1114111)=true->(decide (r.lo=r.hi)&&Cn.scalar r.lo)=(decide (r.lo=r.hi)&&Cn.scalar r.lo)):=fun _=>rfl;have F:r.kind=1\/r.kind=2\/r.kind=3\/r.kind=4\/r.kind=5\/r.kind=6\/r.kind=7\/r.kind=8\/r.kind=9\/r.kind=10\/r.kind=11\/r.kind=12\/r.kind=13\/r.kind=14:=f6J;rcases F with hk1 | hk1 | hk1 | hk1 | hk1 | hk1 | hk1 | hk1 | hk1 | hk1 | hk1 | hk1 | hk1 | hk1
   ·exact z8L r.kind r.lo r.hi r.n (.inl hk1) ao r.to.length q r.name r.other r.wt w z.lo z.hi _ _ _ (rfl:_=decide (0<=r.lo/\r.lo<=r.hi/\r.hi<=1114111)) Q (Cn.bare r) Y (fun e=>congrArg (fun x=>ansG (decide (0<=r.lo/\r.lo<=r.hi/\r.hi<=1114111)&&x)) (z3B e)) (fun e=>congrArg (fun x=>ansG (decide (0<=r.lo/\r.lo<=r.hi/\r.hi<=1114111)&&x)) (z3C e))
   ·exact z8L r.kind r.lo r.hi r.n (.inr hk1) ao r.to.length q r.name r.other r.wt w z.lo z.hi _ _ _ (rfl:_=decide (0<=r.lo/\r.lo<=r.hi/\r.hi<=1114111)) Q (Cn.bare r) Y (fun e=>congrArg (fun x=>ansG (decide (0<=r.lo/\r.lo<=r.hi/\r.hi<=1114111)&&x)) (z3B e)) (fun e=>congrArg (fun x=>ansG (decide (0<=r.lo/\r.lo<=r.hi/\r.hi<=1114111)&&x)) (z3C e))
   ·exact z8M r.kind r.lo r.hi r.n (.inr hk1) ao r.to.length q r.name r.other r.wt w z.lo z.hi _ _ _ (rfl:_=decide (0<=r.lo/\r.lo<=r.hi/\r.hi<=1114111)) Q (Cn.bare r) Y _ (KL 1 24) (fun e=>congrArg (fun x=>ansG (decide (0<=r.lo/\r.lo<=r.hi/\r.hi<=1114111)&&x)) (y9Z e)) (fun e=>congrArg (fun x=>ansG (decide (0<=r.lo/\r.lo<=r.hi/\r.hi<=1114111)&&x)) (z3D e))
   ·have C:Hid (Cn.list r.to 1 1=true->Rune (r.to.getD 0 0)/\∃b P,ao=some ⟨b,P,none⟩/\r.to.length=1/\r.to.length<=q/\∀W,Bw w W->W.cell? ⟨b,P,none⟩=some (.int .i32 (r.to.getD 0 0))):=fun h=>by
     unfold Cn.list at h;rw[Bool.and_eq_true]at h;have D:=o0d h.1;have K:r.to.length=1:=f6J;obtain⟨b,P,cap,H,c1,c2,J⟩:=X.place f6J;simp only[Value.slice.injEq,true_and]at H;obtain⟨rfl,rfl⟩:=H;refine⟨x1c X f6J,b,P,rfl,K,E,fun W t=>?_⟩;have o:=J 0 f6J;rw[Nat.add_zero]at o;rw[t.cell (x0a o)];exact o
    exact rwg_e r.kind r.lo r.hi r.n (hk1) ao r.to.length q r.name r.other r.wt w z.lo z.hi z.n _ _ _ (rfl:_=decide (0<=r.lo/\r.lo<=r.hi/\r.hi<=1114111)) Q (Cn.bare r) Y _ (KL 1 1) (r.to.getD 0 0) C (decide (r.to.getD 0 0+r.hi-r.lo<=1114111/\(r.to.getD 0 0+r.hi-r.lo<55296\/57343<r.to.getD 0 0))) (fun h=>o0d h) (fun h=>g2b) (decide (1<=r.n/\r.n<=64)) (fun h=>o0d h) (fun h=>g2b) (fun e=>congrArg (fun x=>ansG (decide (0<=r.lo/\r.lo<=r.hi/\r.hi<=1114111)&&x)) (z8Y e))
   ·exact z8N r.kind r.lo r.hi r.n (.inl hk1) ao r.to.length q r.name r.other r.wt w z.lo z.hi _ _ _ (rfl:_=decide (0<=r.lo/\r.lo<=r.hi/\r.hi<=1114111)) Q (Cn.bare r) Y _ (KL 0 24) _ (KL 1 24) (fun e=>congrArg (fun x=>ansG (decide (0<=r.lo/\r.lo<=r.hi/\r.hi<=1114111)&&x)) (z3E e)) (fun e=>congrArg (fun x=>ansG (decide (0<=r.lo/\r.lo<=r.hi/\r.hi<=1114111)&&x)) (z0b e))
   ·exact z8P r.kind r.lo r.hi r.n (.inl hk1) ao r.to.length q r.name r.other r.wt w z.lo z.hi z.n _ _ _ (rfl:_=decide (0<=r.lo/\r.lo<=r.hi/\r.hi<=1114111)) Q (Cn.bare r) Y (decide (1<=r.n/\r.n<=254)) (fun h=>o0d h) (fun h=>g2b) (decide (0<=r.n/\r.n<=10)) (fun h=>o0d h) (fun h=>g2b) (fun e=>congrArg (fun x=>ansG (decide (0<=r.lo/\r.lo<=r.hi/\r.hi<=1114111)&&x)) (z3F e)) (fun e=>congrArg (fun x=>ansG (decide (0<=r.lo/\r.lo<=r.hi/\r.hi<=1114111)&&x)) (z3I e))
   ·exact z8O r.kind r.lo r.hi r.n (.inl hk1) ao r.to.length q r.name r.other r.wt w z.lo z.hi _ _ _ (rfl:_=decide (0<=r.lo/\r.lo<=r.hi/\r.hi<=1114111)) Q (Cn.bare r) Y _ (KL 2 2) _ (KL 1 2) (fun e=>congrArg (fun x=>ansG (decide (0<=r.lo/\r.lo<=r.hi/\r.hi<=1114111)&&x)) (z3G e)) (fun e=>congrArg (fun x=>ansG (decide (0<=r.lo/\r.lo<=r.hi/\r.hi<=1114111)&&x)) (z3H e))
   ·exact z8O r.kind r.lo r.hi r.n (.inr hk1) ao r.to.length q r.name r.other r.wt w z.lo z.hi _ _ _ (rfl:_=decide (0<=r.lo/\r.lo<=r.hi/\r.hi<=1114111)) Q (Cn.bare r) Y _ (KL 2 2) _ (KL 1 2) (fun e=>congrArg (fun x=>ansG (decide (0<=r.lo/\r.lo<=r.hi/\r.hi<=1114111)&&x)) (z3G e)) (fun e=>congrArg (fun x=>ansG (decide (0<=r.lo/\r.lo<=r.hi/\r.hi<=1114111)&&x)) (z3H e))
   ·exact z8P r.kind r.lo r.hi r.n (.inr hk1) ao r.to.length q r.name r.other r.wt w z.lo z.hi z.n _ _ _ (rfl:_=decide (0<=r.lo/\r.lo<=r.hi/\r.hi<=1114111)) Q (Cn.bare r) Y (decide (1<=r.n/\r.n<=254)) (fun h=>o0d h) (fun h=>g2b) (decide (0<=r.n/\r.n<=10)) (fun h=>o0d h) (fun h=>g2b) (fun e=>congrArg (fun x=>ansG (decide (0<=r.lo/\r.lo<=r.hi/\r.hi<=1114111)&&x)) (z3F e)) (fun e=>congrArg (fun x=>ansG (decide (0<=r.lo/\r.lo<=r.hi/\r.hi<=1114111)&&x)) (z3I e))
   ·exact rwg_g r.kind r.lo r.hi r.n (hk1) ao r.to.length q r.name r.other r.wt w z.lo z.hi z.n _ _ _ (rfl:_=decide (0<=r.lo/\r.lo<=r.hi/\r.hi<=1114111)) Q (Cn.bare r) Y (decide (0<=r.n/\r.n<=5)) (fun h=>o0d h) (fun h=>g2b) (fun e=>congrArg (fun x=>ansG (decide (0<=r.lo/\r.lo<=r.hi/\r.hi<=1114111)&&x)) (z6k e))
   ·exact z8M r.kind r.lo r.hi r.n (.inl hk1) ao r.to.length q r.name r.other r.wt w z.lo z.hi _ _ _ (rfl:_=decide (0<=r.lo/\r.lo<=r.hi/\r.hi<=1114111)) Q (Cn.bare r) Y _ (KL 1 24) (fun e=>congrArg (fun x=>ansG (decide (0<=r.lo/\r.lo<=r.hi/\r.hi<=1114111)&&x)) (y9Z e)) (fun e=>congrArg (fun x=>ansG (decide (0<=r.lo/\r.lo<=r.hi/\r.hi<=1114111)&&x)) (z3D e))
   ·exact z8Q r.kind r.lo r.hi r.n (.inl hk1) ao r.to.length q r.name r.other r.wt w z.lo z.hi _ _ _ (rfl:_=decide (0<=r.lo/\r.lo<=r.hi/\r.hi<=1114111)) Q (Cn.bare r) Y _ KN _ y (fun e=>congrArg (fun x=>ansG (decide (0<=r.lo/\r.lo<=r.hi/\r.hi<=1114111)&&x)) (z0a e)) (fun e=>congrArg (fun x=>ansG (decide (0<=r.lo/\r.lo<=r.hi/\r.hi<=1114111)&&x)) (z0c e))
   ·exact z8N r.kind r.lo r.hi r.n (.inr hk1) ao r.to.length q r.name r.other r.wt w z.lo z.hi _ _ _ (rfl:_=decide (0<=r.lo/\r.lo<=r.hi/\r.hi<=1114111)) Q (Cn.bare r) Y _ (KL 0 24) _ (KL 1 24) (fun e=>congrArg (fun x=>ansG (decide (0<=r.lo/\r.lo<=r.hi/\r.hi<=1114111)&&x)) (z3E e)) (fun e=>congrArg (fun x=>ansG (decide (0<=r.lo/\r.lo<=r.hi/\r.hi<=1114111)&&x)) (z0b e))
   ·exact z8Q r.kind r.lo r.hi r.n (.inr hk1) ao r.to.length q r.name r.other r.wt w z.lo z.hi _ _ _ (rfl:_=decide (0<=r.lo/\r.lo<=r.hi/\r.hi<=1114111)) Q (Cn.bare r) Y _ KN _ y (fun e=>congrArg (fun x=>ansG (decide (0<=r.lo/\r.lo<=r.hi/\r.hi<=1114111)&&x)) (z0a e)) (fun e=>congrArg (fun x=>ansG (decide (0<=r.lo/\r.lo<=r.hi/\r.hi<=1114111)&&x)) (z0c e))
theorem y9v:y1s:=x9w y0S y0Q
theorem y9w:y6k:=y0P y9v x9x
namespace Cn
theorem x4F{l:List Rec}(h:(check l).2=0):(check l).1=0:=by
 unfold check at h ⊢;by_cases D:(check6 l).2≠0
 ·grind
 ·rw[if_neg D]at h ⊢
  cases hx:x0U l 0 l with
  | some x=>rw[hx]at h;exact absurd h (x3O _ _ _ hx)
  | none=>grind
end Cn
theorem x9s{w1:World}{B:Nat}{v:Value}{ps:List (Rec×Value)}{rs:List Rec}(hr:Rown w1 B v ps)(A:ps.map (·.1)=rs)(S:rs.length<=1000000000)(z:∀r∈rs,RecFit r):Rcs w1 v rs:=by
 subst A;exact hr.rcs t2X fun p T=>z _ (List.mem_map.2 ⟨p,T,rfl⟩)
theorem Rown.lower9{w:World}{B B':Nat}{v:Value}{ps:List (Rec×Value)}(h:Rown w B v ps)(C:B'<=B):Rown w B' v ps:=⟨y9F h.1 C,fun p A=>(h.2 p A).lower C⟩
def z6I(w:World)(rs:List Rec)(e:Ending)(w':World):Prop:=Below w.heap.size w w'/\((¬(Cn.check rs).2=0/\e=.returned (.tuple #[.pointer none,.slice none 0 0,.int .i64 0]))\/((Cn.check rs).2=0/\∃p v ps,e=.returned (.tuple #[.pointer (some ⟨p,0,none⟩),v,.int .i64 1])/\x0n w' w.heap.size p rs/\Rown w' w.heap.size v ps/\ps.map (·.1)=rs))
theorem x9f(v:Value)(D:List Rec)(w:World)(hg:Glob w)(N:Rcs w v D):Calls prog 7 #[v] w (z6I w (D.take 150)):=by
 have aN:=N.1;obtain⟨ao,cap,rfl,aS,aT⟩:=N.shape;obtain⟨n,hn⟩:∃n,n=min D.length 150:=⟨_,rfl⟩;have aO:min (D.length:Int) 150=(n:Int):=f6J;have aG:n<=D.length:=f6J;have aY:n<=150:=f6J;have S:D.take 150=D.take n:=(by rw[hn,List.take_eq_take_min,Nat.min_comm]);have hH:=N.head aG;rw[S];have o:∀r∈D.take n,RecFit r:=fun r hr=>N.2.1 r (List.mem_of_mem_take hr);have aI:(D.take n).length=n:=U3t;clear S hn N;generalize D.take n=rs,D.length=L at *;have K1:=O (x4n _ _ w hH);have A:=O o;have K:=O aI;have HG:=O hg;go_enter func7,ntmps7;go_wp2_with fail;refine(V K1).mono ?_;rintro e1 w1 ⟨v1,ab,rfl,p1,r1,b1⟩;have X:=x9s r1 p1 (by rw[V K];exact f6J) (V A);have K2:=O (x4n _ _ w1 X);obtain⟨a1,aB,aq,_,aL⟩:=X.shape;rw[V K]at aq;have ag:ab.length=n:=(by have:=congrArg List.length p1;rw[List.length_map,V K]at this;exact this);subst aq;have i:=O X;have E:=O r1;have l:=O b1;have ae:=O ag;go_wp2_with fail;refine(V K2).mono ?_;rintro e2 w2 ⟨v2,aK,rfl,p2,r2,b2⟩;have R2:=x9s r2 p2 (by rw[V K];exact f6J) (V A);have K3:=O (y9w _ _ w2 R2);obtain⟨a2,s,C,_,aM⟩:=R2.shape;rw[V K]at C;subst C;have az:=O R2;have f:=O r2;have d:=O b2;go_wp2_with fail;refine c0m K3 fun w3 b3=>?_;have I:=O b3;have K4:=O (y1H _ rs w3 (((V HG).on (V l)).on (x0b (V d) b3)) ((V i).below (x0b (V d) b3)));go_wp2_with fail;refine(V K4).mono ?_;rintro e4 w4 ⟨z,h4⟩;have u:=O z;have y:=O (y2B _ _ rs w4 ((V i).below (x0b (x0b (V d) (V I)) z)) ((V az).below (x0b (V I) z)));rcases h4 with⟨F,rfl⟩ | ⟨T,p,rfl,hD⟩
 ·have J:=O F;have hq:((Cn.check rs).2 != 0)=true:=bne_iff_ne.2 F;generalize hck:Cn.check rs=q at *;have aj:=O hck;obtain⟨q1,q2⟩:=q;simp only at hq;go_wp2_with(go_at_call 25;refine(V y).mono ?_;rintro e5 w5 ⟨rfl,b5⟩;have Q:=O b5;clear y b5);go_ret3;exact⟨x0b (x0b (V l) (x0b (x0b (V d) (V I)) (V u))) (V Q),.inl ⟨by rw[V aj];exact V J,rfl⟩⟩
 ·have hz:=Cn.x4F T;have aR:=O T;have HD:=O hD;generalize hck:Cn.check rs=q at *;have aj:=O hck;obtain⟨q1,q2⟩:=q;simp only at T hz;subst T hz;go_wp2_with(go_at_call 25;refine(V y).mono ?_;rintro e5 w5 ⟨rfl,b5⟩;have Q:=O b5;clear y b5);have af:=O (x0b (x0b (x0b (V d) (V I)) (V u)) (V Q));have ay:=O (Ovr.start (w:=w) (w1:=w1) (w4:=w5) (cap:=aB) (ao:=a1) (ps:=ab) (by rw[V ae];exact V E) (x0b (V l) (V af)) (V af))
  have ar:Hid (∀k,k<n->∃ak R,(ab.getD k (Cn.none,undef)).2=.slice ak (ab.getD k (Cn.none,undef)).1.to.length R/\(ab.getD k (Cn.none,undef)).1.to.length<=140737488355328/\R<=9223372036854775807/\(ab.getD k (Cn.none,undef)).1.to.length<=R):=fun k hk=>by
   have U:ab.getD k (Cn.none,undef)∈ab:=by
    have:=V ae;simp[List.getD,(f6J:k<ab.length)]
   obtain⟨ak,R,e,h1,h2⟩:=((V E).2 _ U).sk.shape;exact⟨ak,R,e,((V E).2 _ U).sk.len,h2,h1⟩
  have M:Hid (∀W k,Ovr w w1 w5 W a1 ab k->z6I w rs (.returned (.tuple #[.pointer (some ⟨p,0,none⟩),.slice a2 n s,.int .i64 1])) W):=fun W k H=>by
   have aP:=(V d).size;have aQ:=(x0b (V d) (V I)).size;have bh:=(V l).size;refine⟨H.bel,.inr ⟨by rw[V aj],p,_,aK,rfl,?_,?_,p2⟩⟩
   ·exact(((V HD).below (V Q)).keep (by rw[H.sz];exact l0r _) (fun b hb _=>H.far b f6J)).lower f6J
   ·exact(((V f).on7 (x0b (x0b (V I) (V u)) (V Q))).far7 (fun b hb _=>H.far b hb)).lower9 f6J
  go_loopw[12,13] (fun ii _ wr=>∃k:Nat,ii=.int .i64 k/\k<=n/\Ovr w w1 w5 wr a1 ab k) (fun ii _ _=>n-(intOf ii).toNat)
  case atStart=>exact⟨0,rfl,f6J,V ay⟩
  case round =>
   obtain⟨k,rfl,hk,H⟩:=hrel;by_cases aF:k<n
   ·have ag:=V ae;obtain⟨ak,R,aH,aZ,ba,be⟩:=V ar k aF;have U:ab.getD k (Cn.none,undef)∈ab:=by simp[List.getD,(f6J:k<ab.length)]
    obtain⟨g,aD⟩:∃g,a1=some ⟨g,0,none⟩:=by
     rcases H.rcd with T | ⟨g,P,e,_⟩
     ·omega
     ·exact⟨g,e⟩
    subst aD
    have ai:Hid (∀W,Ovr w w1 w5 W (some ⟨g,0,none⟩) ab k->W.cell? ⟨g,k*8+4,none⟩=some (ab.getD k (Cn.none,undef)).2/\∃P,W.heap[g]?=some (.cells P 67 (0,0))/\k*8+8<=P.size):=fun W h=>by
     rcases h.rcd with T | ⟨g',P,e,_,_,t,hs,hc⟩
     ·omega
     ·simp only[Option.some.injEq,Addr.mk.injEq,and_true]at e;subst e;exact⟨by rw[cell_of (j:=k*8+4) t f6J,hc k (l0r _) f6J],P,t,f6J⟩
    have am:Hid (∀W,Ovr w w1 w5 W (some ⟨g,0,none⟩) ab k->(ab.getD k (Cn.none,undef)).1.to≠[]->∃gi Z P,(ab.getD k (Cn.none,undef)).2=.slice (some ⟨gi,0,none⟩) (ab.getD k (Cn.none,undef)).1.to.length Z/\w.heap.size<=gi/\gi<w1.heap.size/\W.heap[gi]?=some (.cells P 21 (0,0))/\(ab.getD k (Cn.none,undef)).1.to.length<=P.size):=fun W h=>h.lst _ U;have aA:Hid (∀W,Ovr w w1 w5 W (some ⟨g,0,none⟩) ab k->Ovr w w1 w5 (putR W g (k*8) (Cn.none,.slice none 0 0)) (some ⟨g,0,none⟩) ab (k+1)):=fun W h=>h.wipe rfl f6J _;have HO:=O H;rw[aH]at ai am;generalize hql:(ab.getD k (Cn.none,undef)).1.to.length=tl at *;have Y:=O hql;go_upto_block 2 with fail;go_cut[13] (fun _ wc=>Ovr w w1 w5 wc (some ⟨g,0,none⟩) ab k)
    case first =>
     go_wp2;go_loopw[13] (fun jj wd=>∃j:Nat,jj=.int .i64 j/\j<=tl/\Ovr w w1 w5 wd (some ⟨g,0,none⟩) ab k) (fun jj _=>tl-(intOf jj).toNat)
     case atStart=>exact⟨0,rfl,f6J,V HO⟩
     case round =>
      obtain⟨j,rfl,hj,G⟩:=hrel;obtain⟨aC,-⟩:=V ai wr G;by_cases aX:j<tl
      ·obtain⟨gi,Z,P,e,g1,g2,t,aJ⟩:=V am wr G (fun e=>by have:=V Y;rw[e]at this;simp at this;exact f6J);obtain⟨e1,e2,e3⟩:=Value.slice.inj e;subst e1 e3;have aU:=cell_of (j:=j) t f6J;have aW:=x0e (j:=j) t;have aw:=O (G.item g1 g2 t j (.int .i32 65));generalize P.getD j undef=uj at *;go_wp2
       go_roundw
       case rel=>exact⟨j+1,g2A,f6J,V aw⟩
       case measure=>exact g7T
      ·have c:=O G;go_wp2
       go_meet
       case rel=>exact V c
    case rest =>
     obtain⟨aC,P,t,aJ⟩:=V ai wc hcut;have HW:=O (V aA wc hcut);have y0:=cell_of (j:=k*8) t f6J;have y1:=cell_of (j:=k*8+1) t f6J;have y2:=cell_of (j:=k*8+2) t f6J;have y3:=cell_of (j:=k*8+3) t f6J;have y5:=cell_of (j:=k*8+5) t f6J;have y6:=cell_of (j:=k*8+6) t f6J;have y7:=cell_of (j:=k*8+7) t f6J;have fz:=fun j=>x0e (j:=j) t;have aV:∀W a m,(store a (.float .f64 0) m).run prog W=stored prog W a (.float .f64 0) m:=fun W a m=>run_store prog W a _ m rfl;generalize P.getD (k*8) undef=uy0,P.getD (k*8+1) undef=uy1,P.getD (k*8+2) undef=uy2,P.getD (k*8+3) undef=uy3,P.getD (k*8+5) undef=uy5,P.getD (k*8+6) undef=uy6,P.getD (k*8+7) undef=bj at *;go_wp2;exact⟨⟨k+1,g2A,f6J,V HW⟩,by simp[intOf];exact f6J⟩
   ·obtain rfl:k=n:=f6J;have HF:=O (V M wr k H);go_wp2;go_ret3;exact V HF
namespace Cn
def mk3(k lo hi:Int):Rec:=⟨k,lo,hi,0,[],⟨#[]⟩,⟨#[]⟩,0⟩
def little:List Rec:=[mk3 1 97 122,mk3 1 48 57,mk3 1 45 46,⟨4,65,90,1,[97],⟨#[]⟩,⟨#[]⟩,0⟩,mk3 1 224 224,mk3 1 768 768,⟨7,224,224,0,[97,768],⟨#[]⟩,⟨#[]⟩,0⟩,⟨6,768,768,230,[],⟨#[]⟩,⟨#[]⟩,0⟩,mk3 11 768 768,⟨14,224,224,0,[],⟨#[]⟩,⟨#[]⟩,4591870180066957722⟩]
theorem x5n:check little=(0,0):=M3j
end Cn
def lpsA:List (Rec×Value):=[(Cn.mk3 1 97 122,.slice none 0 0),(Cn.mk3 1 48 57,.slice none 0 0),(Cn.mk3 1 45 46,.slice none 0 0)]
def lpsB(n:Nat):List (Rec×Value):=[(⟨4,65,90,1,[97],⟨#[]⟩,⟨#[]⟩,0⟩,.slice (some ⟨n,0,none⟩) 1 1),(Cn.mk3 1 224 224,.slice none 0 0),(Cn.mk3 1 768 768,.slice none 0 0)]
def lpsC(n:Nat):List (Rec×Value):=[(⟨7,224,224,0,[97,768],⟨#[]⟩,⟨#[]⟩,0⟩,.slice (some ⟨n,0,none⟩) 2 2),(⟨6,768,768,230,[],⟨#[]⟩,⟨#[]⟩,0⟩,.slice none 0 0),(Cn.mk3 11 768 768,.slice none 0 0),(⟨14,224,224,0,[],⟨#[]⟩,⟨#[]⟩,4591870180066957722⟩,.slice none 0 0)]
theorem x9o(w:World)(B:Nat)(l:B<=w.heap.size)(c:Int)(I:-2147483648<=c/\c<=2147483647):Ok .i32 21 (w.alloc (.cells #[.int .i32 c] 21)) B (.slice (some ⟨w.heap.size,0,none⟩) 1 1) [c]:=by
 refine⟨fun z o=>by simp at o;subst o;exact x0T I,M7K,M7K,.inr ⟨w.heap.size,1,#[.int .i32 c],rfl,l,?_,l0r _,by unfold maxLen;exact M7K,M7K,M7K⟩⟩;exact R0n
theorem z5r(W:World)(B:Nat)(l:B<=W.heap.size)(ps:List (Rec×Value))(n:Nat)(E:ps.length=n)(X:n<=100):(W.alloc (.cells (rcells ps).toArray 67)).ownsRow B 67 8 (.slice (some ⟨W.heap.size,0,none⟩) n n) n (rcells ps):=by
 subst E;refine⟨x1k ps,.inr ⟨W.heap.size,ps.length,(rcells ps).toArray,rfl,l,?_,l0r _,T7W,by rw[List.size_toArray,x1k],?_⟩⟩
 ·show(W.heap.push _)[W.heap.size]?=_;simp
 ·exact List.take_of_length_le (by rw[x1k];exact l0r _)
theorem y3x(W:World)(ps:List (Rec×Value)):∀j u,(rcells ps)[j]?=some u->(W.alloc (.cells (rcells ps).toArray 67)).cell? ((⟨W.heap.size,0,none⟩:Addr).add j)=some u:=by
 intro j u h
 have t:(W.alloc (.cells (rcells ps).toArray 67)).heap[W.heap.size]?=some (.cells (rcells ps).toArray 67 (0,0)):=by
  show(W.heap.push _)[W.heap.size]?=_;simp
 rw[addr_add,Nat.zero_add];have K:j<(rcells ps).length:=(List.getElem?_eq_some_iff.1 h).1;rw[cell_of (j:=j) t R6d];rw[Array.getD_eq_getD_getElem?,List.getElem?_toArray,h];rfl
theorem x2k(ps A:List (Rec×Value)):rcells ps++rcells A=rcells (ps++A):=by unfold rcells;rw[List.flatMap_append]
theorem y0X{W1 b:World}{B:Nat}{v v':Value}{ps A:List (Rec×Value)}(s:Rown W1 B v ps)(L:∀q∈A,Ok .i32 21 W1 B q.2 q.1.to)(a:b.ownsRow B 67 8 v' (ps.length+A.length) (rcells ps++rcells A))(Y:W1.grownBy b v.ownBlock):Rown b B v' (ps++A):=by
 refine⟨by rw[List.length_append,<- x2k];exact a,fun p hp=>?_⟩;have S:∀p:Rec×Value,Ok .i32 21 W1 B p.2 p.1.to->Ok .i32 21 b B p.2 p.1.to:=fun p i=>i.keep fun g h=>Y.block g (i.2.2.lt g h).2 (fun e=>x0M i.2.2 s.1 e8M h e.symm);rcases List.mem_append.1 hp with hp | hp
 ·exact S p (s.2 p hp)
 ·exact S p (L p hp)
theorem y8W(ps:List (Rec×Value))(h:∀p∈ps,p.2.oneCell'=true):∀u∈rcells ps,u.oneCell'=true:=by
 intro u C;obtain⟨p,A,C⟩:=List.mem_flatMap.1 C;exact x6Q p.1 (h p A) u C
theorem Rown.alloc9{W:World}{B:Nat}{v:Value}{ps:List (Rec×Value)}(h:Rown W B v ps)(o:Obj):Rown (W.alloc o) B v ps:=h.on7 ((b0r).alloc (l0r _) o)
theorem x7Z(w:World):Calls prog 8 #[] w (x6d w Cn.little):=by
 obtain⟨i1,hj,Q,H,I⟩:=info_parts Tryz.info67;obtain⟨Y,N⟩:∃Y,w.alloc (.cells (rcells lpsA).toArray 67)=Y:=⟨_,rfl⟩
 have hA:Rown Y w.heap.size (.slice (some ⟨w.heap.size,0,none⟩) 3 3) lpsA:=by
  rw[<- N];refine⟨z5r w w.heap.size (l0r _) lpsA 3 rfl f6J,fun p A=>?_⟩;simp only[lpsA,List.mem_cons,List.mem_nil_iff,or_false]at A;rcases A with rfl | rfl | rfl<;>exact Ok.nil _ _ _ _
 have aA:Bw w Y:=(by rw[<- N];exact(b0r).alloc (l0r _) _);have aJ:Y.heap.size=w.heap.size+1:=(by rw[<- N];exact M7P);obtain⟨S,T⟩:∃S,Y.alloc (.cells #[.int .i32 97] 21)=S:=⟨_,rfl⟩;have aB:Bw w S:=(by rw[<- T];exact aA.alloc f6J _);have r:S.heap.size=w.heap.size+2:=by rw[<- T];exact P8P
 have P:Ok .i32 21 S w.heap.size (.slice (some ⟨w.heap.size+1,0,none⟩) 1 1) [97]:=by
  have:=x9o Y w.heap.size f6J 97 f6J;rw[T,aJ]at this;exact this
 have az:Rown S w.heap.size (.slice (some ⟨w.heap.size,0,none⟩) 3 3) lpsA:=(by rw[<- T];exact hA.alloc9 _);obtain⟨b,K⟩:∃b,S.alloc (.cells (rcells (lpsB (w.heap.size+1))).toArray 67)=b:=⟨_,rfl⟩;have aC:Bw w b:=(by rw[<- K];exact aB.alloc f6J _);have aN:b.heap.size=w.heap.size+3:=(by rw[<- K];exact P8P);have ab:=y3x S (lpsB (w.heap.size+1));rw[K,r]at ab;have ag:Rown b w.heap.size (.slice (some ⟨w.heap.size,0,none⟩) 3 3) lpsA:=by rw[<- K];exact az.alloc9 _
 have aH:∀q∈lpsB (w.heap.size+1),Ok .i32 21 b w.heap.size q.2 q.1.to:=fun q L=>by
  simp only[lpsB,List.mem_cons,List.mem_nil_iff,or_false]at L;rcases L with rfl | rfl | rfl
  ·rw[<- K];exact P.below ((b0r).alloc (l0r _) _)
  ·exact n7g
  ·exact n7g
 have n:=y8W (lpsB (w.heap.size+1)) (fun p A=>by
  simp only[lpsB,List.mem_cons,List.mem_nil_iff,or_false]at A
  rcases A with rfl | rfl | rfl<;>rfl)
 have ae:=O ag;have ay:Hid (b.ownsRow w.heap.size 67 8 (.slice (some ⟨w.heap.size,0,none⟩) 3 3) 3 (rcells lpsA)):=ag.1;have aw:=O aH;have C:=O ab;have j:=O n;have ar:=O aC;replace N:w.alloc (.cells #[.int .i64 1,.int .i64 97,.int .i64 122,.int .i64 0,.slice none 0 0,.string ⟨#[]⟩,.string ⟨#[]⟩,.float .f64 0,.int .i64 1,.int .i64 48,.int .i64 57,.int .i64 0,.slice none 0 0,.string ⟨#[]⟩,.string ⟨#[]⟩,.float .f64 0,.int .i64 1,.int .i64 45,.int .i64 46,.int .i64 0,.slice none 0 0,.string ⟨#[]⟩,.string ⟨#[]⟩,.float .f64 0] 67)=Y:=N;replace K:S.alloc (.cells #[.int .i64 4,.int .i64 65,.int .i64 90,.int .i64 1,.slice (some ⟨w.heap.size+1,0,none⟩) 1 1,.string ⟨#[]⟩,.string ⟨#[]⟩,.float .f64 0,.int .i64 1,.int .i64 224,.int .i64 224,.int .i64 0,.slice none 0 0,.string ⟨#[]⟩,.string ⟨#[]⟩,.float .f64 0,.int .i64 1,.int .i64 768,.int .i64 768,.int .i64 0,.slice none 0 0,.string ⟨#[]⟩,.string ⟨#[]⟩,.float .f64 0] 67)=b:=K;go_enter func8,ntmps8;go_wp2_with(at_builtin;refine wpList_append_own _ rfl (.tmp 6) (.tmp 11) 23 rfl w.heap.size 67 i1 (.agg #[.int .i64 0,.int .i64 0,.int .i64 0,.int .i64 0,.slice none 0 0,.string ⟨#[]⟩,.string ⟨#[]⟩,.float .f64 0]) 8 96 underlying23 hj Q H I rfl e8P _ _ _ rfl (V ay) ⟨w.heap.size+2,0,none⟩ 3 3 (rcells (lpsB (w.heap.size+1))) rfl (by rw[x1k];rfl) (V C) (V j) T7X f6J f6J ?_);intro E J Z F _;have y:Rown J w.heap.size E (lpsA++lpsB (w.heap.size+1)):=y0X (V ae) (V aw) Z F;have D:Bw w J:=(V ar).grown F f6J (fun k hk=>((V ae).1.lt k hk).1);have am:=D.size
 have aq:∃g cap,E=.slice (some ⟨g,0,none⟩) 6 cap:=by
  rcases Z.2 with⟨_,h0⟩ | ⟨g,cap,aL,e,_⟩
  ·omega
  ·exact⟨g,cap,e⟩
 obtain⟨af,f,rfl⟩:=aq;obtain⟨m,hm⟩:∃m,J.heap.size=m:=⟨_,rfl⟩;obtain⟨c,U⟩:∃c,J.alloc (.cells #[.int .i32 97,.int .i32 768] 21)=c:=⟨_,rfl⟩;have aD:Bw w c:=(by rw[<- U];exact D.alloc f6J _);have aK:c.heap.size=m+1:=by rw[<- U];exact P8P
 have aG:Ok .i32 21 c w.heap.size (.slice (some ⟨m,0,none⟩) 2 2) [97,768]:=by
  have:=(ok_two J 97 768 f6J f6J).lower am;rw[U,hm]at this;exact this
 obtain⟨d,M⟩:∃d,c.alloc (.cells (rcells (lpsC m)).toArray 67)=d:=⟨_,rfl⟩;have aF:Bw w d:=(by rw[<- M];exact aD.alloc f6J _);have aO:d.heap.size=m+2:=(by rw[<- M];exact P8P);have ab:=y3x c (lpsC m);rw[M,aK]at ab;have ai:Rown d w.heap.size (.slice (some ⟨af,0,none⟩) 6 f) (lpsA++lpsB (w.heap.size+1)):=by rw[<- M,<- U];exact(y.alloc9 _).alloc9 _
 have aI:∀q∈lpsC m,Ok .i32 21 d w.heap.size q.2 q.1.to:=fun q L=>by
  simp only[lpsC,List.mem_cons,List.mem_nil_iff,or_false]at L;rcases L with rfl | rfl | rfl | rfl
  ·rw[<- M];exact aG.below ((b0r).alloc (l0r _) _)
  ·exact n7g
  ·exact n7g
  ·exact n7g
 have o:=y8W (lpsC m) (fun p A=>by
  simp only[lpsC,List.mem_cons,List.mem_nil_iff,or_false]at A
  rcases A with rfl | rfl | rfl | rfl<;>rfl)
 have R:Hid (d.ownsRow w.heap.size 67 8 (.slice (some ⟨af,0,none⟩) 6 f) 6 (rcells (lpsA++lpsB (w.heap.size+1)))):=ai.1;have u:=O ai;have G:=O aI;have C:=O ab;have l:=O o;have a:=O aF;have aM:w.heap.size<=m:=f6J;replace M:c.alloc (.cells #[.int .i64 7,.int .i64 224,.int .i64 224,.int .i64 0,.slice (some ⟨m,0,none⟩) 2 2,.string ⟨#[]⟩,.string ⟨#[]⟩,.float .f64 0,.int .i64 6,.int .i64 768,.int .i64 768,.int .i64 230,.slice none 0 0,.string ⟨#[]⟩,.string ⟨#[]⟩,.float .f64 0,.int .i64 11,.int .i64 768,.int .i64 768,.int .i64 0,.slice none 0 0,.string ⟨#[]⟩,.string ⟨#[]⟩,.float .f64 0,.int .i64 14,.int .i64 224,.int .i64 224,.int .i64 0,.slice none 0 0,.string ⟨#[]⟩,.string ⟨#[]⟩,.float .f64 4591870180066957722] 67)=d:=M;go_wp2_with(at_builtin;refine wpList_append_own _ rfl (.tmp 13) (.tmp 19) 23 rfl w.heap.size 67 i1 (.agg #[.int .i64 0,.int .i64 0,.int .i64 0,.int .i64 0,.slice none 0 0,.string ⟨#[]⟩,.string ⟨#[]⟩,.float .f64 0]) 8 96 underlying23 hj Q H I rfl e8P _ _ _ rfl (V R) ⟨m+1,0,none⟩ 4 4 (rcells (lpsC m)) rfl (by rw[x1k];rfl) (V C) (V l) T7X f6J f6J ?_);intro s t X i _;have z:Rown t w.heap.size s (lpsA++lpsB (w.heap.size+1)++lpsC m):=y0X (V u) (V G) X i;have aj:Bw w t:=(V a).grown i f6J (fun k hk=>((V u).1.lt k hk).1);have HF:Hid (x6d w Cn.little (.returned s) t):=⟨s,_,rfl,rfl,z,aj⟩;exact I7o
