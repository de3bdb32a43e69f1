/- Lemmas. -/
import Derived.Test.YtbmckadcjdedcaaGreatDoorK13
import Derived.Deep.RegionHeld
import Derived.Deep.AppendLies
import Derived.Test.YtbmckadcjdedcaaGreatDoorK22
set_option maxHeartbeats 8000000
set_option maxRecDepth 8000
namespace Go.Proofs.YtbmckadcjdedcaaGreatDoor
open Go.Proofs.Tryz
open Go.RowKit
open Ti
section
variable{p:Prop}
theorem g3n(h:p:=by
 have F:S≠r:=fun e=>by
  subst e;simp only[World.cell?,hr]at T;cases T
 rw[World.cell?_of_block (x0q F)];exact T):p:=h
theorem s4o(h:p:=by simp[zeroValue,typeInfo,run_program,Result.andThen,Z,D]):p:=h
theorem n7Y(h:p:=by rw[x0q f6J];exact h.res):p:=h
theorem W2p(h:p:=by(intro w hSw;obtain⟨H,N,B,C,y,g⟩:=hSw;go_simp)):p:=h
theorem m4C(h:p:=by rw[x0q f6J];exact h.hx):p:=h
theorem E8c(h:p:=by have:=h.sz;exact f6J):p:=h
theorem e4I(h:p:=by rw[World.size_alloc];exact f6J):p:=h
theorem E3k(h:p:=by rw[World.size_alloc,World.size_alloc];exact f6J):p:=h
theorem m7X(h:p:=by simp only[Array.size_push];rw[if_neg f6J,if_neg f6J,if_pos trivial]):p:=h
theorem u4r(h:p:=by rw[List.length_append,Ti.x2o];exact hr):p:=h
theorem e1W(h:p:=by rw[x1I];exact A):p:=h
theorem g4E(h:p:=by(intro w hSw;obtain⟨H,N,s2,s3⟩:=hSw;go_simp)):p:=h
theorem n5Z(h:p:=by show 0<2;exact f6J):p:=h
theorem u7D(h:p:=by rw[List.length_append];exact f6J):p:=h
theorem T8Q(h:p:=by(intro w hSw;obtain⟨s0,s1,s2,s3,s4,s5,s6,s7⟩:=hSw;go_simp)):p:=h
theorem v6h(h:p:=by simp only[Array.size_push];rw[if_neg f6J,if_pos trivial]):p:=h
theorem w8q(h:p:=by show 0<1;exact f6J):p:=h
theorem w2h(h:p:=by show 1<2;exact f6J):p:=h
theorem E3A(h:p:=by have h2:(fs.take k).length<=fs.length:=List.length_take_le' _ _;omega):p:=h
end
namespace Cn
theorem x3i{g:Nat->Rec->Int}:∀(l:List Rec) (i:Nat) (r:Rec),rangesA g i (l++[r])=rangesA g i l++spoken r (g (i+l.length) r)
 | [],i,r=>by simp[rangesA]
 | x::l,i,r=>by
  rw[List.cons_append,rangesA,x3i l (i+1) r,rangesA,List.append_assoc,List.length_cons,(f6J:i+1+l.length=i+(l.length+1))]
theorem x5k{r}(h:right r=0)(G:r.kind≠15) v:(spoken r v).length<=1114112:=by
 obtain⟨N,B,C⟩:=x0o h G;unfold spoken;split
 ·simp
 ·rw[x5U]
  rename_i hc
  have E:=right_step h;have z:r.kind=4:=Decidable.byContradiction fun e=>hc (.inl e);unfold step at E;rw[if_pos z]at E;have:(r.hi-r.lo) / r.n<=r.hi-r.lo:=Int.ediv_le_self _ f6J;omega
theorem x3Q{g:Nat->Rec->Int}:∀(l:List Rec) (i:Nat),(∀r∈l,right r=0/\r.kind≠15)->(rangesA g i l).length<=1114112*l.length
 | [],_,_=>by simp[rangesA]
 | r::l,i,h=>by
  rw[rangesA,List.length_append,List.length_cons];have Z:=x5k (h r M7K).1 (h r M7K).2 (g i r);have D:=x3Q (g:=g) l (i+1) (fun x J=>h x (List.mem_cons_of_mem _ J));omega
end Cn
theorem y1k r v(h:Cn.right r=0)(G:r.kind≠15):0<(Cn.spoken r v).length:=by
 unfold Cn.spoken;split
 ·simp
 ·rw[Cn.x5U]
  rename_i hc
  obtain⟨N,B,C⟩:=Cn.x0o h G;have E:=Cn.right_step h;have z:r.kind=4:=Decidable.byContradiction fun e=>hc (.inl e);unfold Cn.step at E;rw[if_pos z]at E;have:=Int.ediv_nonneg (a:=r.hi-r.lo) (b:=r.n) f6J f6J;omega
theorem z2I{W0 w2 w4 bv v4}{xs ys:List Tri.Rg}(l:Bw W0 w2)(y:Or4 w2 W0.heap.size bv xs)(hy:FitR ys)(S:xs.length+ys.length<=5000000000)(hr:w4.ownsRow W0.heap.size 259 3 v4 (xs.length+ys.length) (Ti.rcells xs++Ti.rcells ys))(C:w2.grownBy w4 bv.ownBlock):Or4 w4 W0.heap.size v4 (xs++ys)/\Bw W0 w4 :=
 ⟨⟨fun r h=>by
  rcases List.mem_append.1 h with h | h
  ·exact y.1 r h
  ·exact hy r h,u7B,u4r⟩,l.grown C l.size (fun g I=>(y.2.2.lt g I).1)⟩
theorem y9w{w B v}{ys:List Tri.Rg}(h:Or4 w B v ys)(E:0<ys.length):∃g cap,v=.slice (some ⟨g,0,none⟩) ys.length cap/\∀j u,(Ti.rcells ys)[j]?=some u->w.cell? ((⟨g,0,none⟩:Addr).add j)=some u:=by
 rcases h.2.2.2 with⟨_,A⟩ | ⟨g,cap,t,rfl,_⟩
 ·omega
 ·exact⟨g,cap,rfl,fun j u K=>h.2.2.cells (g:=g) rfl j u K⟩
theorem z4J{w w' b kd lo hi n vt}{nm ot wt}(h:BoxAt w b kd lo hi n vt nm ot wt)(Q:w'.heap[b]?=w.heap[b]?):BoxAt w' b kd lo hi n vt nm ot wt:=by
 have e:∀j,w'.cell? ⟨b,j,none⟩=w.cell? ⟨b,j,none⟩:=fun j=>World.cell?_of_block Q;exact⟨by rw[e];exact h.1,by rw[e];exact h.2,by rw[e];exact h.3,by rw[e];exact h.4,by rw[e];exact h.5,by rw[e];exact h.6,by rw[e];exact h.7,by rw[e];exact h.8⟩
theorem y1r v rs kind w(hg:Glob w)(hv:Rcs w v rs)(G:I64 kind)(aJ:∀r∈Cn.famOf (Cn.fam kind) rs,Cn.right r=0/\r.kind≠15/\Fi (Cn.value r))(hl:(Cn.famOf (Cn.fam kind) rs).length<=4096)(q:∀m:List Tri.Rg,m.Perm (Cn.rangesA (fun _ r=>Cn.value r) 1 (Cn.famOf (Cn.fam kind) rs))->(m.Pairwise fun x y=>Tri.lo x<=Tri.lo y)->Tri.Val 0 m):Calls prog 86 #[v,.int .i64 kind] w (x6k w (Cn.rangesA (fun _ r=>Cn.value r) 1 (Cn.famOf (Cn.fam kind) rs))):=by
 obtain⟨i0,aN,aS,aT,aU⟩:=info_parts Tryz.info259;have K1:=O (x5u v rs kind w hg hv G);unfold FamB at K1;obtain⟨ao,M,aR,_,_⟩:=hv.shape;generalize Cn.famOf (Cn.fam kind) rs=fs at *;have Z:=O aJ;have D:=O q;clear hv hg aJ q;subst aR;go_enter func86,ntmps86;go_wp2_with fail;refine(V K1).mono ?_;rintro e1 w1 ⟨v1,ps,rfl,ar,hR,E⟩;have aO:ps.length=fs.length:=(by rw[<- ar,List.length_map]);have af:Rcs w1 v1 fs:=by rw[<- ar];exact hR.rsx.rcs E f6J
 have c:Hid (∀k,(Cn.rangesA (fun _ r=>Cn.value r) 1 (fs.take k)).length<=4563402752):=fun k=>by
  have h1:=Cn.x3Q (g:=fun _ r=>Cn.value r) (fs.take k) 1 (fun r hr=>⟨(V Z r (List.mem_of_mem_take hr)).1,(V Z r (List.mem_of_mem_take hr)).2.1⟩);exact E3A
 have p:Hid (∀k,k<fs.length->∃b P M,v1=.slice (some ⟨b,P,none⟩) fs.length M/\RecAt w1 b (P+k*8) (fs.getD k Cn.none)/\RecFit (fs.getD k Cn.none)):=fun k G=>by
  obtain⟨b,P,M,d,_,_,hc⟩:=af.place f6J;exact⟨b,P,M,d,hc k G,af.fit G⟩
 have f:Hid (∀k,k<fs.length->Cn.rangesA (fun _ r=>Cn.value r) 1 (fs.take (k+1))=Cn.rangesA (fun _ r=>Cn.value r) 1 (fs.take k)++Cn.spoken (fs.getD k Cn.none) (Cn.value (fs.getD k Cn.none))):=fun k G=>by
  have e:fs.take (k+1)=fs.take k++[fs.getD k Cn.none]:=by
   rw[List.take_add_one];exact w8f
  rw[e,Cn.x3i]
 have C:Hid (∀e w',x6k w1 (Cn.rangesA (fun _ r=>Cn.value r) 1 fs) e w'->x6k w (Cn.rangesA (fun _ r=>Cn.value r) 1 fs) e w'):=fun e w' h=>by
  obtain⟨a,m,h1,h2,h3,h4,h5⟩:=h;exact⟨a,m,h1,h2,h3,h4.lower E.size,x0b E h5⟩
 obtain⟨aZ,aW,aL,_,_⟩:=af.shape;subst aL;clear K1 ar hR af aO E;go_wp2;go_loopw[5,7,12] (fun rv _ iv wr=>∃k:Nat,iv=.int .i64 k/\k<=fs.length/\Or4 wr w1.heap.size rv (Cn.rangesA (fun _ r=>Cn.value r) 1 (fs.take k))/\Bw w1 wr) (fun _ _ iv _=>fs.length-(intOf iv).toNat)
 case atStart=>exact⟨0,rfl,f6J,Or4.nil _ _,b0r⟩
 case round =>
  obtain⟨k,rfl,G,N,ab⟩:=hrel;by_cases H:k<fs.length
  ·obtain⟨b,P,aV,d,hA,l⟩:=V p k H;obtain⟨e1,e2,e3⟩:=Value.slice.inj d;clear e2 e3 d;subst e1;obtain⟨ae,J,aK⟩:=V Z (fs.getD k Cn.none) N3K;have ay:=O (V f k H);have bh:=V c k;obtain⟨y0,y1,y2,y3,⟨va,y4,I⟩,y5,y6,y7⟩:=hA;obtain⟨t,L,rfl,_,_⟩:=I.shape;have hold:∀j u,w1.cell? ⟨b,P+k*8+j,none⟩=some u->wr.cell? ⟨b,P+k*8+j,none⟩=some u:=fun j u h=>(by rw[ab.cell (x0a h)];exact h);have x0:wr.cell? ⟨b,P+k*8,none⟩=_:=hold 0 _ y0;have x1:=hold 1 _ y1;have x2:=hold 2 _ y2;have x3:=hold 3 _ y3;have x4:=hold 4 _ y4;have x5:=hold 5 _ y5;have x6:=hold 6 _ y6;have x7:=hold 7 _ y7;clear hold y0 y1 y2 y3 y4 y5 y6 y7 p f D C;generalize fs.getD k Cn.none=r at *;have aM:∀W a m,(store a (.float .f64 r.wt) m).run prog W=stored prog W a (.float .f64 r.wt) m:=fun W a m=>run_store prog W a _ m rfl;obtain⟨W1,ba,aI,T⟩:=x0O wr r.kind r.lo r.hi r.n (.slice t r.to.length L) r.name r.other r.wt;have Q:=O (x0b ab T);have Y:Hid (∀W,Bw W1 W->BoxAt W wr.heap.size r.kind r.lo r.hi r.n (.slice t r.to.length L) r.name r.other r.wt):=fun W h=>aI.keep h;have az:Hid (∀W,Bw W1 W->Or4 W w1.heap.size u5 (Cn.rangesA (fun _ r=>Cn.value r) 1 (fs.take k))/\Bw w1 W):=fun W h=>⟨(N.below T).below h,x0b (V Q) h⟩;have KV:Hid (∀W,Bw W1 W->Calls prog 137 #[recV r (.slice t r.to.length L)] W (IntB W (Cn.value r))):=fun W h=>y6u r _ W l (I.below (x0b (V Q) h));have KS:Hid (∀W,Bw W1 W->Calls prog 136 #[recV r (.slice t r.to.length L),.int .i64 (Cn.value r)] W (y6F W (Cn.spoken r (Cn.value r)))):=fun W h=>x7m r _ _ W l (I.below (x0b (V Q) h)) ae J aK;have aQ:=y1k r (Cn.value r) ae J;have be:=Cn.x5k ae J (Cn.value r);unfold recV at KV KS;obtain⟨z0,z1,z2,z3,z4,z5,z6,z7⟩:=aI;have aw:Hid (u5.ownBlock≠some wr.heap.size):=fun e=>(by have:=(N.2.2.lt _ e).2;exact f6J);have aA:Hid (wr.heap.size<W1.heap.size):=x0a z0;clear N ab T l I ae J aK Z c;generalize Cn.spoken r (Cn.value r)=ys at *;generalize Cn.value r=vv at *;generalize Cn.rangesA (fun _ r=>Cn.value r) 1 (fs.take k)=xs,r.kind=kd,r.lo=lo,r.hi=hi,r.n=n at *;generalize r.name=nm,r.other=ot,r.wt=wt,r.to.length=tl at *;go_wp2;clear Q x0 x1 x2 x3 x4 x5 x6 x7 z0 z1 z2 z3 z4 z5 z6 z7 aM;refine wp_region_held_drew (S:=fun w'=>BoxAt w' wr.heap.size kd lo hi n (.slice t tl L) nm ot wt) f4y (V Y _ (x0k ⟨1,rfl⟩)) (fun hHeld=>?_);refine tk9 0 u5 ?_;refine tk9 1 (.agg #[.int .i64 kd,.int .i64 lo,.int .i64 hi,.int .i64 n,.slice t tl L,.string nm,.string ot,.float .f64 wt]) ?_ (hy:=T8Q);refine tk9 2 (.agg #[.int .i64 kd,.int .i64 lo,.int .i64 hi,.int .i64 n,.slice t tl L,.string nm,.string ot,.float .f64 wt]) ?_ (hy:=T8Q);refine rd9 3 fun K hK=>?_;go_simp;refine c1m (V KV _ (x0k ⟨1,rfl⟩)) fun w2 aG=>?_;have i:=O (x0b (x0k ⟨1,rfl⟩) aG:Bw W1 w2);clear aG;refine hK.out _ _ ?_ (fun hHeld=>?_)
   ·exact V Y _ (V i)
   clear hK K
   try simp only[Act.put,sa9,sb9,sc9]
   refine rd9 4 fun K hK=>?_;go_simp;refine(V KS _ (V i)).mono ?_;rintro e3 w3 ⟨v3,rfl,F,aH⟩;have am:=x0b (V i) aH;obtain⟨g3,aB,rfl,aj⟩:=y9w F aQ;have aq:=V az _ am;have aX:=aq.2.size;have HM:=O aq;have s:=O F.1;have ag:=O aj;have B:=O (Ti.x5a ys);have X:=O am;clear F aH am aq aj;refine hK.out _ _ ?_ (fun hHeld=>?_)
   ·exact V Y _ (V X)
   clear hK K
   try simp only[Act.put,sa9,sb9,sc9]
   refine rd9 5 fun K hK=>?_;refine step_append_lies _ (by rfl) (.tmp 16) (.tmp 20) 203 (by rfl) w1.heap.size 259 i0 (.agg #[.int .i64 0,.int .i64 0,.int .i64 0]) 3 24 underlying203 aN aS aT aU rfl f6J u5 xs.length (Ti.rcells xs) (by rfl) (V HM).1.2.2 ⟨g3,0,none⟩ ys.length aB (Ti.rcells ys) (by rfl) (by rw[Ti.x1Q]) (V ag) (V B) f6J T7X f6J f6J w3.heap.size rfl ?_;intro gg aC w8 U A aF z;have ai:=z4J (V Y _ (V X)) (A.block wr.heap.size (Nat.lt_of_lt_of_le (V aA) (V X).size) (fun e=>V aw e.symm));have R:=z2I (V HM).2 (V HM).1 (V s) f6J U A;rw[<- V ay]at R;have HR:=O R;clear R U A aF;refine hK.out _ _ ?_ (fun hHeld=>?_)
   ·exact ai
   clear hK K ai
   try simp only[Act.put,sa9,sb9,sc9]
   refine tk9 6 (.slice (some ⟨gg,0,none⟩) (xs.length+ys.length) aC) ?_;refine wpAnyH_done f4y ?_ _;clear hHeld HM s ag B az Y KV KS ay i X aw aA z;go_wp2
   go_roundw
   case rel=>exact⟨k+1,g2D,f6J,(V HR).1,(V HR).2⟩
   case measure=>exact g7V
  ·obtain rfl:k=fs.length:=f6J;rw[List.take_of_length_le (l0r _)]at N;have KB:=O (y6Y w1 wr _ _ ab N (by have:=V c fs.length;rw[List.take_of_length_le (l0r _)]at this;exact f6J) (V D));obtain⟨ro,aY,aP,_,_⟩:=N.sr.shape;subst aP;clear N ab p f Z c D;go_wp2_with fail;refine(V KB).mono ?_;intro e w9 aD;have h9:=V C e w9 aD;obtain⟨a,m,rfl,q2,q3,q4,q5⟩:=h9;have HF:x6k w (Cn.rangesA (fun _ r=>Cn.value r) 1 fs) (.returned (.pointer (some a))) w9:=⟨a,m,rfl,q2,q3,q4,q5⟩;clear KB aD C q2 q3 q4 q5;go_wp2;go_ret;exact HF
open Ti
def SpkB(w:World)(fs:List Rec)(e:Ending)(w':World):Prop:=∃a m vl ps,e=.returned (.agg #[.pointer (some a),vl])/\m.Perm (Cn.rangesA (fun i _=>(i:Int)) 1 fs)/\(m.Pairwise fun x y=>Tri.lo x<=Tri.lo y)/\T4 w' w.heap.size (.pointer (some a)) m 0/\Rown w' w.heap.size vl ps/\ps.map (·.1)=Cn.none::fs/\Below w.heap.size w w'
structure Spst(w w1 wr:World)(rv lv:Value)(xs:List Tri.Rg)(ps:List (Rec×Value)):Prop where
 bel:Below w.heap.size w wr
 sz:w1.heap.size<=wr.heap.size
 s1:w.heap.size+2<=w1.heap.size
 old:∀g,g<w1.heap.size->g≠w.heap.size+1->wr.heap[g]?=w1.heap[g]?
 res:w1.heap[w.heap.size]?=some (.cells #[.pointer none,.slice none 0 0] 138 (0,0))
 rng:Or4 wr w1.heap.size rv xs
 rcs:Rown wr w.heap.size lv ps
 lvb:∀g,lv.ownBlock=some g->g=w.heap.size+1\/w1.heap.size<=g
section
variable {w w1 wr w':World} {rv lv v' vt:Value} {xs ys:List Tri.Rg} {ps:List (Rec×Value)} {r:Rec} {o:Obj}
theorem Spst.below(h:Spst w w1 wr rv lv xs ps)(Q:Bw wr w'):Spst w w1 w' rv lv xs ps :=
 ⟨x0b h.bel Q,Nat.le_trans h.sz Q.size,h.s1,fun g Z D=>by rw[Q.block g E8c];exact h.old g Z D,h.res,h.rng.below Q,⟨x0v h.rcs.1 fun g C=>Q.block g (h.rcs.1.lt g C).2,fun p L=>(h.rcs.2 p L).below Q⟩,h.lvb⟩
theorem Spst.keep(h:Spst w w1 wr rv lv xs ps){B}(X:wr.heap.size<=w'.heap.size)(Q:Bw w w')(l:w1.heap.size<=B)(G:∀g,g<wr.heap.size->g≠B->w'.heap[g]?=wr.heap[g]?)(hr:rv.ownBlock≠some B)(S:lv.ownBlock≠some B)(L:∀p∈ps,p.2.ownBlock≠some B):Spst w w1 w' rv lv xs ps :=
 ⟨Q,Nat.le_trans h.sz X,h.s1,fun g Z D=>by rw[G g E8c f6J];exact h.old g Z D,h.res,⟨h.rng.1,h.rng.2.1,x0v h.rng.2.2 fun g C=>G g (h.rng.2.2.lt g C).2 (fun e=>hr (by rw[C,e]))⟩,
  ⟨x0v h.rcs.1 fun g C=>G g (h.rcs.1.lt g C).2 (fun e=>S (by rw[C,e])),fun p Y=>(h.rcs.2 p Y).keep fun g C=>G g ((h.rcs.2 p Y).2.2.lt g C).2 (fun e=>L p Y (by rw[C,e]))⟩,h.lvb⟩
theorem Spst.ranges(h:Spst w w1 wr rv lv xs ps)(hy:FitR ys)(S:xs.length+ys.length<=5000000000)(hr:w'.ownsRow w1.heap.size 259 3 v' (xs.length+ys.length) (Ti.rcells xs++Ti.rcells ys))(C:wr.grownBy w' rv.ownBlock):Spst w w1 w' v' lv (xs++ys) ps:=by
 have k:∀g,g<wr.heap.size->rv.ownBlock≠some g->w'.heap[g]?=wr.heap[g]?:=fun g Z D=>C.block g Z (fun e=>D e.symm);have E:∀g,rv.ownBlock=some g->w1.heap.size<=g:=fun g I=>(h.rng.2.2.lt g I).1;refine⟨h.bel.grown C h.bel.size (fun g I=>Nat.le_trans u6j (E g I)),Nat.le_trans h.sz C.size,h.s1,fun g Z D=>?_,h.res,⟨fun x hx=>?_,u7D,u4r⟩,⟨x0v h.rcs.1 fun g I=>k g (h.rcs.1.lt g I).2 (x0P h.rcs.1 h.rng.2.2 e8N I),fun p L=>?_⟩,h.lvb⟩
 ·rw[k g E8c (fun e=>by have:=E g e;exact f6J)];exact h.old g Z D
 ·rcases List.mem_append.1 hx with hx | hx
  ·exact h.rng.1 x hx
  ·exact hy x hx
 ·have y:=h.rcs.2 p L;exact y.keep fun g I=>k g (y.2.2.lt g I).2 (x0P y.2.2 h.rng.2.2 e8N I)
theorem Spst.more(h:Spst w w1 wr rv lv xs ps)(K:Ok .i32 21 wr w.heap.size vt r.to){gg cap}(hr:w'.ownsRow w.heap.size 67 8 (.slice (some ⟨gg,0,none⟩) (ps.length+1) cap) (ps.length+1) (rcells ps++x0y (r,vt)))(C:(wr.alloc o).grownBy w' lv.ownBlock)(N:lv.ownBlock=some gg\/gg=wr.heap.size+1):Spst w w1 w' rv (.slice (some ⟨gg,0,none⟩) (ps.length+1) cap) xs (ps++[(r,vt)]):=by
 have X:=h.bel.size;have a:=h.sz;have A:=h.s1
 have k:∀g,g<wr.heap.size->lv.ownBlock≠some g->w'.heap[g]?=wr.heap[g]?:=fun g Z D=>by
  rw[C.block g e4I (fun e=>D e.symm)];exact((Below.refl wr.heap.size wr).alloc (l0r _) o).block g Z
 refine⟨(h.bel.alloc X o).grown C e4I (fun g I=>(h.rcs.1.lt g I).1),Nat.le_trans a (by have:=C.size;rw[World.size_alloc]at this;exact f6J),A,fun g Z D=>?_,h.res,⟨h.rng.1,h.rng.2.1,x0v h.rng.2.2 fun g I=>k g (h.rng.2.2.lt g I).2 (x0P h.rng.2.2 h.rcs.1 e8N I)⟩,⟨?_,fun p hp=>?_⟩,fun g I=>?_⟩
 ·rw[k g f6J (fun e=>by rcases h.lvb g e with h3 | h3<;>omega)];exact h.old g Z D
 ·rw[x3R]at hr;simpa using hr
 ·rcases List.mem_append.1 hp with hp | hp
  ·have y:=h.rcs.2 p hp;exact y.keep fun g I=>k g (y.2.2.lt g I).2 (x0P y.2.2 h.rcs.1 e8N I)
  ·simp only[List.mem_singleton]at hp;subst hp;exact K.keep fun g I=>k g (K.2.2.lt g I).2 (x0P K.2.2 h.rcs.1 e8N I)
 ·simp only[Value.ownBlock,Option.some.injEq]at I;subst I;rcases N with h3 | h3
  ·exact h.lvb _ h3
  ·exact e5w
end
theorem z6L w:∃W1 x,w.alloc (.cells #[.pointer none,.slice none 0 0] 138)=W1/\W1.alloc (.cells #[.int .i64 0,.int .i64 0,.int .i64 0,.int .i64 0,.slice none 0 0,.string ⟨#[]⟩,.string ⟨#[]⟩,.float .f64 0] 67)=x/\Bw w x/\W1.heap.size=w.heap.size+1/\x.heap.size=w.heap.size+2/\∀w1,Bw x w1->Spst w w1 w1 (.slice none 0 0) (.slice (some ⟨w.heap.size+1,0,none⟩) 1 1) [] [(Cn.none,.slice none 0 0)]:=by
 refine⟨_,_,rfl,rfl,((b0r).alloc (l0r _) _).alloc M7M _,World.size_alloc _ _,by rw[World.size_alloc,World.size_alloc],fun w1 Q=>?_⟩;have X:=Q.size;rw[World.size_alloc,World.size_alloc]at X;have A:Bw w ((w.alloc (.cells #[.pointer none,.slice none 0 0] 138)).alloc (.cells #[.int .i64 0,.int .i64 0,.int .i64 0,.int .i64 0,.slice none 0 0,.string ⟨#[]⟩,.string ⟨#[]⟩,.float .f64 0] 67)):=((b0r).alloc (l0r _) _).alloc M7M _;refine⟨x0b A Q,l0r _,f6J,fun g _ _=>rfl,?_,Or4.nil _ _,⟨⟨rfl,.inr ⟨w.heap.size+1,1,#[.int .i64 0,.int .i64 0,.int .i64 0,.int .i64 0,.slice none 0 0,.string ⟨#[]⟩,.string ⟨#[]⟩,.float .f64 0],rfl,f6J,?_,l0r _,T7W,rfl,rfl⟩⟩,fun p L=>?_⟩,fun g C=>?_⟩
 ·rw[Q.block _ E3k];exact n9Y
 ·rw[Q.block _ E3k];show((w.heap.push _).push _)[w.heap.size+1]?=_;rw[Array.getElem?_push,if_pos M7M]
 ·simp only[List.mem_singleton]at L;subst L;exact Ok.nil _ _ _ _
 ·simp only[Value.ownBlock,Option.some.injEq]at C;exact .inl C.symm
theorem z8L(k:Nat) z(h:[Value.int .i64 0,.int .i64 0,.int .i64 0,.int .i64 0,.slice none 0 0,.string ⟨#[]⟩,.string ⟨#[]⟩,.float .f64 0][k]?=some (.int .i32 z)):False:=by grind
theorem z9C{w1 W B}(l:w1.heap[B]?=some (.cells #[.int .i64 0,.int .i64 0,.int .i64 0,.int .i64 0,.slice none 0 0,.string ⟨#[]⟩,.string ⟨#[]⟩,.float .f64 0] 67 (0,0)))(G:∀g,g<w1.heap.size->g≠B->W.heap[g]?=w1.heap[g]?){va zs}(h:Sk .i32 w1 va zs):Sk .i32 W va zs:=by
 obtain⟨Z,D,R⟩:=h;refine⟨Z,D,?_⟩;rcases R with R | ⟨b,P,M,e,C,U,s⟩
 ·exact .inl R
 ·refine .inr ⟨b,P,M,e,C,U,fun i hi=>?_⟩;have T:=s i hi
  have F:b≠B:=fun e=>by
   subst e;rw[x9i .i32 zs i w3y]at T;simp only[World.cell?,l]at T;exact z8L _ _ t1l
  rw[World.cell?_of_block (G b (x0a T) F)];exact T
theorem z2J{w:World}{B e A n:Nat}{v us}(h:w.ownsRow B e A v n us){g}(C:v.ownBlock=some g):∃t,w.heap[g]?=some (.cells t e (0,0)):=by
 rcases h.2 with⟨rfl,_⟩ | ⟨S,M,t,rfl,_,Y,_⟩
 ·cases C
 ·simp only[Value.ownBlock,Option.some.injEq]at C;subst C;exact⟨t,Y⟩
theorem z0t{w:World}{B e K A n g:Nat}{v us cur}(h:w.ownsRow B e A v n us)(Y:w.heap[g]?=some (.cells cur K (0,0)))(F:e≠K):v.ownBlock≠some g:=fun C=>by
 obtain⟨c,T⟩:=z2J h C;rw[Y]at T;simp only[Option.some.injEq,Obj.cells.injEq]at T;exact F T.2.1.symm
theorem x4K{w:World}{g c0 c1 c2 c3 c4 c5 c6 c7}(h:w.heap[g]?=some (.cells #[c0,c1,c2,c3,c4,c5,c6,c7] 67 (0,0))):w.cell? ⟨g,0,none⟩=some c0/\w.cell? ⟨g,1,none⟩=some c1/\w.cell? ⟨g,2,none⟩=some c2/\w.cell? ⟨g,3,none⟩=some c3/\w.cell? ⟨g,4,none⟩=some c4/\w.cell? ⟨g,5,none⟩=some c5/\w.cell? ⟨g,6,none⟩=some c6/\w.cell? ⟨g,7,none⟩=some c7 :=
 ⟨cell_of (j:=0) h s5q,cell_of (j:=1) h G0Z,cell_of (j:=2) h V3Y,cell_of (j:=3) h e8d,cell_of (j:=4) h e2U,cell_of (j:=5) h i3Z,cell_of (j:=6) h F4N,cell_of (j:=7) h U3C⟩
def y6A(w:World)(v:Value)(xs:List Tri.Rg)(e:Ending)(w':World):Prop:=∃a m,e=.returned (.pointer (some a))/\m.Perm xs/\(m.Pairwise fun x y=>Tri.lo x<=Tri.lo y)/\T4 w' w.heap.size (.pointer (some a)) m 0/\w.grownBy w' v.ownBlock
theorem y5h{a b c:World}{row}(h:a.grownBy b row)(k:Bw b c):a.grownBy c row:=by
 refine⟨k.os.trans h.os,k.tape.trans h.tape,k.output.trans h.output,Nat.le_trans h.size k.size,fun g Z D=>?_⟩;rw[k.block g (Nat.lt_of_lt_of_le Z h.size)];exact h.block g Z D
theorem y4B B w v(xs:List Tri.Rg)(h:Or4 w B v xs)(S:xs.length<=5000000000)(N:∀m:List Tri.Rg,m.Perm xs->(m.Pairwise fun x y=>Tri.lo x<=Tri.lo y)->Tri.Val 0 m):Calls prog 138 #[v] w (y6A w v xs):=by
 have G:=O (y1i w B v xs h S);have E:=O N;obtain⟨R,M,rfl,_,_⟩:=h.sr.shape;go_enter func138,ntmps138;go_wp2_with fail;refine(V G).mono ?_;rintro P w1 ⟨rfl,ys,L,A,s,C⟩;have q:=V E ys L A;have g:=O (z3C _ ys 0 w1 s ⟨f6J,f6J⟩);have n:(Tri.check 0 ys).2=0:=Tri.x4b.2 ⟨q,f6J,f6J⟩;have T:=O n;have U:=O L;have D:=O A;have K:=O C;go_wp2_with fail;refine(V g).mono ?_;rintro f d ⟨F,⟨_,a,rfl,b⟩ | ⟨p,_⟩⟩
 ·have Y:y6A w (.slice R xs.length M) xs (.returned (.pointer (some a))) d:=⟨a,ys,rfl,V U,V D,b.lower (V K).size,y5h (V K) F⟩;exact n0L
 ·exact absurd (V T) p
theorem Spst.fin{w w1 wr w9 rv lv}{xs:List Tri.Rg}{ps:List (Rec×Value)}(h:Spst w w1 wr rv lv xs ps)(C:wr.grownBy w9 rv.ownBlock){a}{m:List Tri.Rg}(b:T4 w9 wr.heap.size (.pointer (some a)) m 0) :
  w9.heap[w.heap.size]?=some (.cells #[.pointer none,.slice none 0 0] 138 (0,0)) /\
  ((w9.setCell ⟨w.heap.size,0,none⟩ (.pointer (some a))).setCell ⟨w.heap.size,1,none⟩ lv).heap[w.heap.size]?=some (.cells #[.pointer (some a),lv] 138 (0,0)) /\
  T4 ((w9.setCell ⟨w.heap.size,0,none⟩ (.pointer (some a))).setCell ⟨w.heap.size,1,none⟩ lv) w.heap.size (.pointer (some a)) m 0/\Rown ((w9.setCell ⟨w.heap.size,0,none⟩ (.pointer (some a))).setCell ⟨w.heap.size,1,none⟩ lv) w.heap.size lv ps /\
  Bw w ((w9.setCell ⟨w.heap.size,0,none⟩ (.pointer (some a))).setCell ⟨w.heap.size,1,none⟩ lv):=by
 have N:=h.s1;have A:=h.sz;have k:∀g,g<wr.heap.size->rv.ownBlock≠some g->w9.heap[g]?=wr.heap[g]?:=fun g Z D=>C.block g Z (fun e=>D e.symm);have E:∀g,rv.ownBlock=some g->w1.heap.size<=g:=fun g I=>(h.rng.2.2.lt g I).1
 have B:w9.heap[w.heap.size]?=some (.cells #[.pointer none,.slice none 0 0] 138 (0,0)):=by
  rw[k _ f6J (fun e=>by have:=E _ e;exact f6J),h.old _ f6J f6J];exact h.res
 have G:Rown w9 w.heap.size lv ps:=⟨x0v h.rcs.1 fun g I=>k g (h.rcs.1.lt g I).2 (x0P h.rcs.1 h.rng.2.2 e8N I),fun p L=>(h.rcs.2 p L).keep fun g I=>k g ((h.rcs.2 p L).2.2.lt g I).2 (x0P (h.rcs.2 p L).2.2 h.rng.2.2 e8N I)⟩;have S:∀g,g≠w.heap.size->((w9.setCell ⟨w.heap.size,0,none⟩ (.pointer (some a))).setCell ⟨w.heap.size,1,none⟩ lv).heap[g]?=w9.heap[g]?:=fun g F=>(by rw[x0g _ F,x0g _ F]);have d:Bw w w9:=h.bel.grown C h.bel.size (fun g I=>by have:=E g I;exact f6J);refine⟨B,?_,?_,⟨x0v G.1 fun g I=>S g (fun e=>z0t G.1 B e8N (by rw[I,e])),fun p L=>(G.2 p L).keep fun g I=>S g (fun e=>z0t (G.2 p L).2.2 B e8N (by rw[I,e]))⟩,x0d (x0d d (l0r _) _) (l0r _) _⟩
 ·rw[x0f (x0f B _)];rfl
 ·exact T4.lower (b.keep (by rw[x1b,x1b];exact l0r _) fun g Z _=>S g f6J) f6J
open Go.RowKit Go.MapKept Go.WideMaps
open Go.ChangeMaps (setBlock)
theorem x3U{w b o}(h:b<w.heap.size):(setBlock w b o).heap[b]?=some o:=by
 show(w.heap.setIfInBounds b o)[b]?=_;simp[h]
theorem x0q{w b g o}(h:g≠b):(setBlock w b o).heap[g]?=w.heap[g]?:=by
 show(w.heap.setIfInBounds b o)[g]?=_;simp[Ne.symm h]
theorem x1I w b o:(setBlock w b o).heap.size=w.heap.size:=by
 show(w.heap.setIfInBounds b o).size=_;simp
theorem x3K{B a w}(h:Below B a w){b}(Q:B<=b) o:Below B a (setBlock w b o):=by
 refine⟨h.os,h.tape,h.output,?_,fun g C=>?_⟩
 ·rw[x1I];exact h.size
 ·rw[x0q f6J];exact h.block g C
structure Cst(w wr:World)(lp ls:List Rec):Prop where
 bel:Below w.heap.size w wr
 sz:w.heap.size+4<=wr.heap.size
 res:wr.heap[w.heap.size]?=some (.cells #[.map none,.map none] 149 (0,0))
 hx:wr.heap[w.heap.size+3]?=some (.cells #[.map (some (w.heap.size+1)),.map (some (w.heap.size+2))] 149 (0,0))
 mp:GAt KP wr (w.heap.size+1) (x3y lp)
 ms:GAt KR wr (w.heap.size+2) (secC ls)
section
variable {w wr w':World} {lp ls lp' ls':List Rec}
theorem Cst.below(h:Cst w wr lp ls)(Q:Bw wr w'):Cst w w' lp ls:=by
 have A:=h.sz;obtain⟨P,C,y,W⟩:=h.mp;obtain⟨f,U,N,B⟩:=h.ms;exact⟨x0b h.bel Q,Nat.le_trans A Q.size,by rw[Q.block _ f6J];exact h.res,by rw[Q.block _ f6J];exact h.hx,⟨P,C,by rw[Q.block _ f6J];exact y,W⟩,⟨f,U,by rw[Q.block _ f6J];exact N,B⟩⟩
theorem Cst.pair(h:Cst w wr lp ls){Y:Array MapEntry}{cl}(C:GObj KP Y cl (x3y lp')):Cst w (setBlock wr (w.heap.size+1) (.map Y cl)) lp' ls:=by
 have A:=h.sz;obtain⟨f,U,N,B⟩:=h.ms;exact⟨x3K h.bel f6J _,e1W,n7Y,m4C,⟨Y,cl,x3U f6J,C⟩,⟨f,U,by rw[x0q f6J];exact N,B⟩⟩
theorem Cst.second(h:Cst w wr lp ls){Y:Array MapEntry}{cl}(C:GObj KR Y cl (secC ls')):Cst w (setBlock wr (w.heap.size+2) (.map Y cl)) lp ls':=by
 have A:=h.sz;obtain⟨f,U,N,B⟩:=h.mp;exact⟨x3K h.bel f6J _,e1W,n7Y,m4C,⟨f,U,by rw[x0q f6J];exact N,B⟩,⟨Y,cl,x3U f6J,C⟩⟩
def CmpB(w:World)(rs:List Rec)(e:Ending)(w':World):Prop:=∃r1 r2,e=.returned (.agg #[.map (some r1),.map (some r2)])/\w.heap.size<=r1/\w.heap.size<=r2/\GAt KP w' r1 (x3y rs)/\GAt KR w' r2 (secC rs)/\Below w.heap.size w w'
theorem Cst.fin(h:Cst w wr lp lp):((wr.setCell ⟨w.heap.size,0,none⟩ (.map (some (w.heap.size+1)))).setCell ⟨w.heap.size,1,none⟩ (.map (some (w.heap.size+2)))).heap[w.heap.size]?=some (.cells #[.map (some (w.heap.size+1)),.map (some (w.heap.size+2))] 149 (0,0)) /\
  CmpB w lp (.returned (.agg #[.map (some (w.heap.size+1)),.map (some (w.heap.size+2))])) ((wr.setCell ⟨w.heap.size,0,none⟩ (.map (some (w.heap.size+1)))).setCell ⟨w.heap.size,1,none⟩ (.map (some (w.heap.size+2)))):=by
 have A:=h.sz;have S:∀g,g≠w.heap.size->((wr.setCell ⟨w.heap.size,0,none⟩ (.map (some (w.heap.size+1)))).setCell ⟨w.heap.size,1,none⟩ (.map (some (w.heap.size+2)))).heap[g]?=wr.heap[g]?:=fun g F=>(by rw[x0g _ F,x0g _ F]);obtain⟨P,C,y,W⟩:=h.mp;obtain⟨f,U,N,B⟩:=h.ms;refine⟨by rw[x0f (x0f h.res _)];rfl,_,_,rfl,f6J,f6J,⟨P,C,by rw[S _ f6J];exact y,W⟩,⟨f,U,by rw[S _ f6J];exact N,B⟩,x0d (x0d h.bel (l0r _) _) (l0r _) _⟩
end
theorem z4W w:∃W1 x Y G,w.alloc (.cells #[.map none,.map none] 149)=W1/\W1.alloc (.map #[] 0)=x/\x.alloc (.map #[] 0)=Y/\Y.alloc (.cells #[.map (some (w.heap.size+1)),.map (some (w.heap.size+2))] 149)=G/\W1.heap.size=w.heap.size+1/\x.heap.size=w.heap.size+2/\Y.heap.size=w.heap.size+3/\Cst w G [] []:=by
 refine⟨_,_,_,_,rfl,rfl,rfl,rfl,M7M,M7M,M7M,?_⟩;have Q:Bw w ((((w.alloc (.cells #[.map none,.map none] 149)).alloc (.map #[] 0)).alloc (.map #[] 0)).alloc (.cells #[.map (some (w.heap.size+1)),.map (some (w.heap.size+2))] 149)):=((((b0r).alloc (l0r _) _).alloc M7M _).alloc P8P _).alloc P8P _;refine⟨Q,M7M,?_,?_,⟨#[],0,?_,y8q _ _ y9A⟩,⟨#[],0,?_,y8q _ _ z3a⟩⟩
 ·show((((w.heap.push _).push _).push _).push _)[w.heap.size]?=_;rw[Array.getElem?_push,Array.getElem?_push,Array.getElem?_push,Array.getElem?_push];simp only[Array.size_push];rw[if_neg f6J,if_neg f6J,if_neg f6J,if_pos trivial]
 ·show((((w.heap.push _).push _).push _).push _)[w.heap.size+3]?=_;rw[Array.getElem?_push,Array.getElem?_push,Array.getElem?_push,Array.getElem?_push];simp only[Array.size_push];rw[if_pos trivial]
 ·show((((w.heap.push _).push _).push _).push _)[w.heap.size+1]?=_;rw[Array.getElem?_push,Array.getElem?_push,Array.getElem?_push,Array.getElem?_push];exact m7X
 ·show((((w.heap.push _).push _).push _).push _)[w.heap.size+2]?=_;rw[Array.getElem?_push,Array.getElem?_push,Array.getElem?_push,Array.getElem?_push];exact v6h
open Go.RowKit Go.MapKept Go.WideMaps
open Go.ChangeMaps (setBlock)
structure Cbx(W:World)(g x m1 m2 b off:Nat)(lo p q:Int)(vt:Value):Prop where
 lo:W.cell? ⟨g,1,none⟩=some (.int .i64 lo)
 lst:W.cell? ⟨g,4,none⟩=some vt
 x0:W.cell? ⟨x,0,none⟩=some (.map (some m1))
 x1:W.cell? ⟨x,1,none⟩=some (.map (some m2))
 a:W.cell? ⟨b,off,none⟩=some (.int .i32 p)
 b:W.cell? ⟨b,off+1,none⟩=some (.int .i32 q)
theorem Cbx.block{W g x m1 m2 b off r lo p q vt}(h:Cbx W g x m1 m2 b off lo p q vt){Y:Array MapEntry}{cl} o(hr:W.heap[r]?=some (.map Y cl)):Cbx (setBlock W r o) g x m1 m2 b off lo p q vt:=by
 have k:∀S j v,W.cell? ⟨S,j,none⟩=some v->(setBlock W r o).cell? ⟨S,j,none⟩=some v:=fun S j v T=>g3n
 exact⟨k _ _ _ h.lo,k _ _ _ h.lst,k _ _ _ h.x0,k _ _ _ h.x1,k _ _ _ h.a,k _ _ _ h.b⟩
theorem Cbx.drew{W g x m1 m2 b off lo p q vt}(h:Cbx W g x m1 m2 b off lo p q vt):Cbx W.drew g x m1 m2 b off lo p q vt:=⟨h.lo,h.lst,h.x0,h.x1,h.a,h.b⟩
theorem y1o t W:(Instr.makeMap t none).run prog W=.ok (.map (some W.heap.size)) (W.alloc (.map #[] 0)):=by
 simp[Instr.makeMap,Result.andThen]
theorem z3u w:(zeroValue 21).run prog w=.ok (.int .i32 0) w:=by
 obtain⟨i,Z,D,_,_⟩:=info_parts Tryz.info21;exact s4o
theorem Tryz.info93:(prog.info? 3).map (fun i=>(i.zero,i.size,i.bytes))=some (some (.int .i64 0),1,8):=f4x
theorem z3v w:(zeroValue 3).run prog w=.ok (.int .i64 0) w:=by
 obtain⟨i,Z,D,_,_⟩:=info_parts Tryz.info93;exact s4o
theorem z2Z l b:(secC l (.int .i32 b)).getD (.int .i64 0)=.int .i64 (Cn.secOf l b:Nat):=by
 show(if Cn.secOf l b=0 then none else some (Value.int .i64 (Cn.secOf l b:Nat))).getD _=_;by_cases h:Cn.secOf l b=0
 ·rw[if_pos h,h];rfl
 ·rw[if_neg h];rfl
theorem x4d v rs w(hv:Rcs w v rs)(aL:∀r∈rs,r.kind=7->r.to.length=2/\0<=r.lo/\r.lo<=1114111)(hl:rs.length<=4096):Calls prog 88 #[v] w (CmpB w rs):=by
 obtain⟨W1,W2,W3,W4,aW,aX,aY,aZ,bh,bj,bC,aF⟩:=z4W w;have bp:=hv.1;obtain⟨ao,aT,ay,_,_⟩:=hv.shape
 have p:Hid (∀k W,k<rs.length->Bw w W->∃b P,v=.slice (some ⟨b,P,none⟩) rs.length aT/\RecAt W b (P+k*8) (rs.getD k Cn.none)/\RecFit (rs.getD k Cn.none)):=fun k W G hW=>by
  obtain⟨b,P,bn,d,_,_,hc⟩:=(hv.below hW).place f6J;rw[ay]at d;obtain⟨e1,e2,e3⟩:=Value.slice.inj d;refine⟨b,P,?_,hc k G,(hv.below hW).fit G⟩;rw[ay,e1]
 have f:Hid (∀k,k<rs.length->rs.take (k+1)=rs.take k++[rs.getD k Cn.none]/\rs.getD k Cn.none∈rs):=fun k G=>by
  refine⟨?_,?_⟩
  ·rw[List.take_add_one];exact w8f
  ·exact w8f
 have Z:=O aL;have aB:=O aF;clear hv aL aF;subst ay;have be:=y1o;go_enter func88,ntmps88;go_wp2;clear be;go_loopw[5,11] (fun _ iv wr=>∃k:Nat,iv=.int .i64 k/\k<=rs.length/\Cst w wr (rs.take k) (rs.take k)) (fun _ iv _=>rs.length-(intOf iv).toNat)
 case atStart=>exact⟨0,rfl,f6J,V aB⟩
 case round =>
  obtain⟨k,rfl,G,hC⟩:=hrel;clear aB aW aX aY aZ bh bj;by_cases aK:k<rs.length
  ·obtain⟨b,P,d,hA,l⟩:=V p k wr aK hC.bel;obtain⟨q1,_,_⟩:=Value.slice.inj d;clear d;subst q1;obtain⟨aD,X⟩:=V f k aK;have ar:=V Z _ X;obtain⟨x0,x1,x2,x3,⟨va,x4,az⟩,x5,x6,x7⟩:=hA;obtain⟨aP,L,rfl,_,_⟩:=az.shape;clear p f Z X;generalize rs.getD k Cn.none=r at *;obtain⟨V1,aH⟩:∃V1,wr.alloc (.cells #[.int .i64 r.kind,.int .i64 r.lo,.int .i64 r.hi,.int .i64 r.n,.slice aP r.to.length L,.string r.name,.string r.other,.float .f64 r.wt] 67)=V1:=⟨_,rfl⟩;have T:Bw wr V1:=by rw[<- aH];exact(b0r).alloc (l0r _) _
   have Q:V1.heap[wr.heap.size]?=some (.cells #[.int .i64 r.kind,.int .i64 r.lo,.int .i64 r.hi,.int .i64 r.n,.slice aP r.to.length L,.string r.name,.string r.other,.float .f64 r.wt] 67 (0,0)):=by
    rw[<- aH];exact s6Q
   have aG:=hC.below T;have bB:∀W a m,(store a (.float .f64 r.wt) m).run prog W=stored prog W a (.float .f64 r.wt) m:=fun W a m=>run_store prog W a _ m rfl;obtain⟨z0,z1,z2,z3,z4,z5,z6,z7⟩:=x4K Q;have Y:=O aG;have ab:=O (az.below T);have bA:=l.lo;clear hC aG az T Q l;by_cases F:r.kind=7
   ·obtain⟨t2,l0,l1⟩:=ar F;have aN:Rune (r.to.getD 0 0):=x1d (V ab) f6J;have aO:Rune (r.to.getD 1 0):=x1d (V ab) f6J
    have af:Hid (x3y (rs.take k++[r]) (pk2 (r.to.getD 0 0) (r.to.getD 1 0))=some (.int .i32 r.lo)):=by
     show x3y (rs.take k++[r]) (pk2 (r.to.getD 0 0) (r.to.getD 1 0))=_;have hp:Cn.isP (r.to.getD 0 0) (r.to.getD 1 0) r=true:=d0t ⟨F,rfl,rfl⟩;rw[y3X,Cn.x6V,if_pos hp];rfl
    have I:Hid (∀x,x≠pk2 (r.to.getD 0 0) (r.to.getD 1 0)->x3y (rs.take k++[r]) x=x3y (rs.take k) x):=fun x hx=>x6U fun a b e q=>hx (by rw[e,<- q.2.1,<- q.2.2])
    have J:Hid (secC (rs.take k++[r]) (.int .i32 (r.to.getD 1 0))=some (.int .i64 ((Cn.secOf (rs.take k) (r.to.getD 1 0):Nat)+1))):=by
     show(if Cn.secOf (rs.take k++[r]) (r.to.getD 1 0)=0 then none else some (Value.int .i64 (Cn.secOf (rs.take k++[r]) (r.to.getD 1 0):Nat)))=_
     have hs:Cn.secOf (rs.take k++[r]) (r.to.getD 1 0)=Cn.secOf (rs.take k) (r.to.getD 1 0)+1:=by
      rw[Cn.x8t,if_pos (And.intro F rfl)]
     rw[hs,if_neg f6J];rfl
    have ag:Hid (∀x,x≠Value.int .i32 (r.to.getD 1 0)->secC (rs.take k++[r]) x=secC (rs.take k) x):=fun x hx=>x8s fun b e q=>hx (by rw[e,<- q.2]);have aj:=Cn.z3b (rs.take k) (r.to.getD 1 0);have bt:Cn.secOf (rs.take k) (r.to.getD 1 0)<=4096:=(by rw[List.length_take]at aj;exact f6J);obtain⟨s,A,pc,aM,_,_,aw⟩:=(V ab).place f6J;have ya:=aw 0 f6J;have yb:=aw 1 f6J;rw[Nat.add_zero]at ya;obtain⟨e1,_,e3⟩:=Value.slice.inj aM;subst e1;subst e3;have hX:=(V Y).hx;have D:Hid (Cbx V1 wr.heap.size (w.heap.size+3) (w.heap.size+1) (w.heap.size+2) s A r.lo (r.to.getD 0 0) (r.to.getD 1 0) (.slice (some ⟨s,A,none⟩) r.to.length L)):=⟨z1,z4,cell_of (j:=0) hX n5Z,cell_of (j:=1) hX w2h,ya,yb⟩;obtain⟨es,cl,hu,aJ⟩:=x8R (w:=V1.drew) (M:=146) klP underlying146 (r:=w.heap.size+1) (V Y).mp ⟨_,_,rfl,aN,aO⟩ (V af) (V I);have R:Hid (Cst w (setBlock V1.drew (w.heap.size+1) (.map es cl)) (rs.take k++[r]) (rs.take k)):=((V Y).below (x0k ⟨1,rfl⟩)).pair aJ
    have ae:Hid (Cbx (setBlock V1.drew (w.heap.size+1) (.map es cl)) wr.heap.size (w.heap.size+3) (w.heap.size+1) (w.heap.size+2) s A r.lo (r.to.getD 0 0) (r.to.getD 1 0) (.slice (some ⟨s,A,none⟩) r.to.length L)):=by
     obtain⟨aV,aU,i,_⟩:=(V Y).mp;exact(V D).drew.block _ i
    have bu:IntKind.i32.wrap r.lo=r.lo:=(by rw[IntKind.wrap_i32];exact f6J);have bD:((Cn.secOf (rs.take k) (r.to.getD 1 0):Nat):Int)+1<=5000:=f6J;unfold pk2 at hu;clear aJ af I aw aM ya yb hX ab ar aj aN aO;rw[t2]at *;generalize r.to.getD 0 0=pa,r.to.getD 1 0=u at *;generalize hsn:Cn.secOf (rs.take k) u=sn at *;have aS:=O hsn;clear hsn;generalize hkd:r.kind=kd at *;have ba:(kd==7)=true:=(by rw[beq_iff_eq];exact F);clear hkd F;go_wp2;clear x0 x1 x2 x3 x4 x5 x6 x7 z0 z1 z2 z3 z4 z5 z6 z7;refine wp_region_held_drew (S:=fun w'=>Cbx w' wr.heap.size (w.heap.size+3) (w.heap.size+1) (w.heap.size+2) s A r.lo pa u (.slice (some ⟨s,A,none⟩) 2 L)) f4y (V D).drew (fun hHeld=>?_);refine tk9 0 (.pointer (some ⟨w.heap.size+3,0,none⟩)) ?_ (hy:=W2p);refine tk9 1 (.map (some (w.heap.size+1))) ?_ (hy:=W2p);refine tk9 2 (.pointer (some ⟨wr.heap.size,4,none⟩)) ?_ (hy:=W2p);refine tk9 3 (.slice (some ⟨s,A,none⟩) 2 L) ?_ (hy:=W2p);refine tk9 4 (.pointer (some ⟨s,A,none⟩)) ?_ (hy:=W2p);refine tk9 5 (.int .i32 pa) ?_ (hy:=W2p);refine tk9 6 (.pointer (some ⟨wr.heap.size,4,none⟩)) ?_ (hy:=W2p);refine tk9 7 (.slice (some ⟨s,A,none⟩) 2 L) ?_ (hy:=W2p);refine tk9 8 (.pointer (some ⟨s,A+1,none⟩)) ?_ (hy:=W2p);refine tk9 9 (.int .i32 u) ?_ (hy:=W2p);refine tk9 10 (.agg #[.int .i32 pa,.int .i32 u]) ?_ (hy:=W2p);refine tk9 11 (.pointer (some ⟨wr.heap.size,1,none⟩)) ?_ (hy:=W2p);refine tk9 12 (.int .i64 r.lo) ?_ (hy:=W2p);refine tk9 13 (.int .i32 r.lo) ?_ (hy:=W2p);refine rd9 14 fun K hK=>?_;go_simp;refine hK.out _ _ ?_ (fun hHeld=>?_)
    ·exact V ae
    clear hK K;refine wpAnyH_done f4y ?_ _;clear hHeld hu D Y;generalize setBlock V1.drew (w.heap.size+1) (.map es cl)=W5 at *;have t:=(z3G (w:=W5.drew) (M:=147) (z:=.int .i64 0) klR underlying147 z3v (r:=w.heap.size+2) (V R).ms ⟨u,rfl⟩).2;rw[z2Z,V aS]at t;obtain⟨aq,am,bm,ai⟩:=x8R (w:=W5.drew) (M:=147) klR underlying147 (r:=w.heap.size+2) (V R).ms ⟨u,rfl⟩ (V J) (V ag);have aR:Hid (Cst w (setBlock W5.drew (w.heap.size+2) (.map aq am)) (rs.take k++[r]) (rs.take k++[r])):=((V R).below (x0k ⟨1,rfl⟩)).second ai
    have aA:Hid (Cbx (setBlock W5.drew (w.heap.size+2) (.map aq am)) wr.heap.size (w.heap.size+3) (w.heap.size+1) (w.heap.size+2) s A r.lo pa u (.slice (some ⟨s,A,none⟩) 2 L)):=by
     obtain⟨aV,aU,i,_⟩:=(V R).ms;exact(V ae).drew.block _ i
    have E:Hid (Cbx W5.drew wr.heap.size (w.heap.size+3) (w.heap.size+1) (w.heap.size+2) s A r.lo pa u (.slice (some ⟨s,A,none⟩) 2 L)):=(V ae).drew;have bw:IntKind.i64.wrap ((sn:Int)+1)=(sn:Int)+1:=(by rw[IntKind.wrap_i64];exact f6J);clear ai J ag R ae;go_wp2;refine wp_region_held_drew (S:=fun w'=>Cbx w' wr.heap.size (w.heap.size+3) (w.heap.size+1) (w.heap.size+2) s A r.lo pa u (.slice (some ⟨s,A,none⟩) 2 L)) f4y (V E) (fun hHeld=>?_);refine tk9 0 (.pointer (some ⟨w.heap.size+3,1,none⟩)) ?_ (hy:=W2p);refine tk9 1 (.map (some (w.heap.size+2))) ?_ (hy:=W2p);refine tk9 2 (.pointer (some ⟨wr.heap.size,4,none⟩)) ?_ (hy:=W2p);refine tk9 3 (.slice (some ⟨s,A,none⟩) 2 L) ?_ (hy:=W2p);refine tk9 4 (.pointer (some ⟨s,A+1,none⟩)) ?_ (hy:=W2p);refine tk9 5 (.int .i32 u) ?_ (hy:=W2p);refine rd9 6 fun K hK=>?_;go_simp;refine hK.out _ _ ?_ (fun hHeld=>?_)
    ·exact V E
    clear hK K
    try simp only[Act.put,sa9,sb9,sc9]
    refine tk9 7 (.int .i64 ((sn:Int)+1)) ?_;refine rd9 8 fun K hK=>?_;go_simp;refine hK.out _ _ ?_ (fun hHeld=>?_)
    ·exact V aA
    clear hK K;refine wpAnyH_done f4y ?_ _;clear hHeld bm t E aA;generalize setBlock W5.drew (w.heap.size+2) (.map aq am)=W7 at *;go_wp2
    go_roundw
    case rel=>exact⟨k+1,g2D,f6J,by rw[aD];exact V aR⟩
    case measure=>exact g7V
   ·have ba:(r.kind==7)=false:=b0f F
    have aQ:Hid (Cst w V1 (rs.take k++[r]) (rs.take k++[r])):=by
     have hp:x3y (rs.take k++[r])=x3y (rs.take k):=funext fun v=>x6U fun a b _ q=>F q.1;have hs:secC (rs.take k++[r])=secC (rs.take k):=funext fun v=>x8s fun b _ q=>F q.1;have h:=V Y;exact⟨h.bel,h.sz,h.res,h.hx,by rw[hp];exact h.mp,by rw[hs];exact h.ms⟩
    clear Y ab ar F;generalize r.kind=kd at *;go_wp2
    go_roundw
    case rel=>exact⟨k+1,g2D,f6J,by rw[aD];exact V aQ⟩
    case measure=>exact g7V
  ·obtain rfl:k=rs.length:=f6J;rw[List.take_of_length_le (l0r _)]at hC;have hX:=hC.hx;have y0:=cell_of (j:=0) hX n5Z;have y1:=cell_of (j:=1) hX w2h;have F1:=hC.res;have z0:=cell_of (j:=0) F1 n5Z;have z1:=cell_of (j:=1) F1 w2h;have f0:=fun j=>x0e (j:=j) F1;obtain⟨F2,F3⟩:=hC.fin;have aC:=O F2;have c:=O F3;clear p f Z hC hX F1 F2 F3;go_wp2;have U:=V aC;have aI:=V c;clear aC c y0 y1 f0 z0 z1;generalize(wr.setCell ⟨w.heap.size,0,none⟩ (.map (some (w.heap.size+1)))).setCell ⟨w.heap.size,1,none⟩ (.map (some (w.heap.size+2)))=bE at *;have z0:=cell_of (j:=0) U n5Z;have z1:=cell_of (j:=1) U w2h;refine bodyPost_ret (v:=.agg #[.map (some (w.heap.size+1)),.map (some (w.heap.size+2))]) (by simp[results,Tryz.results88,go_sem,z0,z1]) rfl aI
open Go.RowKit Go.MapKept Go.WideMaps
open Go.ChangeMaps (setBlock)
open Go.Lib (minS maxS run_min_strs run_max_strs)
def MxAt(w:World)(r:Nat):Prop:=∃c,GAt KN w r c
theorem y9g{w r a b}(h:MxAt w r)(H:Sh a)(Q:Sh b) v:∃Y cl,(Instr.mapUpdate 151 (.map (some r)) (pk a b) v).run prog w=.ok () (setBlock w r (.map Y cl))/\∃c,GObj KN Y cl c:=by
 obtain⟨c,h⟩:=h;have dec:∀x:Value,Decidable (x=pk a b):=fun x=>Classical.propDecidable _;obtain⟨Y,cl,Z,D⟩:=x8R (M:=151) (c':=fun x=>@ite _ (x=pk a b) (dec x) (some v) (c x)) klN underlying151 h ⟨a,b,rfl,H,Q⟩ (if_pos rfl) (fun x J=>if_neg J);exact⟨Y,cl,Z,_,D⟩
theorem x6s a b w:Calls prog 140 #[.string a,.string b] w fun e w'=>e=.returned (pk (minS a b) (maxS a b))/\Bw w w':=by
 have Z:=@run_min_strs prog;have D:=@run_max_strs prog;unfold pk;go_enter func140,ntmps140;go_wp2;go_returns;exact⟨rfl,(b0r).alloc (l0r _) _⟩
structure Mst(w wr:World):Prop where
 bel:Below w.heap.size w wr
 sz:w.heap.size+3<=wr.heap.size
 res:wr.heap[w.heap.size]?=some (.cells #[.map none] 153 (0,0))
 hx:wr.heap[w.heap.size+2]?=some (.cells #[.map (some (w.heap.size+1))] 153 (0,0))
 mp:MxAt wr (w.heap.size+1)
theorem Mst.below{w wr w'}(h:Mst w wr)(Q:Bw wr w'):Mst w w':=by
 have A:=h.sz;obtain⟨c,P,C,y,W⟩:=h.mp;exact⟨x0b h.bel Q,Nat.le_trans A Q.size,by rw[Q.block _ f6J];exact h.res,by rw[Q.block _ f6J];exact h.hx,c,P,C,by rw[Q.block _ f6J];exact y,W⟩
theorem Mst.more{w wr}(h:Mst w wr){Y:Array MapEntry}{cl}(C:∃c,GObj KN Y cl c):Mst w (setBlock wr (w.heap.size+1) (.map Y cl)):=by
 have A:=h.sz;obtain⟨c,C⟩:=C;exact⟨x3K h.bel f6J _,e1W,n7Y,m4C,c,Y,cl,x3U f6J,C⟩
def MxtB(w:World)(e:Ending)(w':World):Prop:=∃r,e=.returned (.agg #[.map (some r)])/\w.heap.size<=r/\MxAt w' r/\Below w.heap.size w w'
theorem Mst.fin{w wr}(h:Mst w wr):(wr.setCell ⟨w.heap.size,0,none⟩ (.map (some (w.heap.size+1)))).heap[w.heap.size]?=some (.cells #[.map (some (w.heap.size+1))] 153 (0,0))/\MxtB w (.returned (.agg #[.map (some (w.heap.size+1))])) (wr.setCell ⟨w.heap.size,0,none⟩ (.map (some (w.heap.size+1)))):=by
 obtain⟨c,P,C,y,W⟩:=h.mp;exact⟨by rw[x0f h.res];rfl,_,rfl,f6J,⟨c,P,C,by rw[x0g _ f6J];exact y,W⟩,x0d h.bel (l0r _) _⟩
theorem z6f w:∃W1 x Y,w.alloc (.cells #[.map none] 153)=W1/\W1.alloc (.map #[] 0)=x/\x.alloc (.cells #[.map (some (w.heap.size+1))] 153)=Y/\W1.heap.size=w.heap.size+1/\x.heap.size=w.heap.size+2/\Mst w Y:=by
 refine⟨_,_,_,rfl,rfl,rfl,M7M,M7M,?_⟩;have Q:Bw w (((w.alloc (.cells #[.map none] 153)).alloc (.map #[] 0)).alloc (.cells #[.map (some (w.heap.size+1))] 153)):=(((b0r).alloc (l0r _) _).alloc M7M _).alloc P8P _;refine⟨Q,M7M,?_,?_,fun _=>none,#[],0,?_,y8q _ _ fun _=>rfl⟩
 ·show(((w.heap.push _).push _).push _)[w.heap.size]?=_;rw[Array.getElem?_push,Array.getElem?_push,Array.getElem?_push];exact m7X
 ·show(((w.heap.push _).push _).push _)[w.heap.size+2]?=_;rw[Array.getElem?_push,Array.getElem?_push,Array.getElem?_push];simp only[Array.size_push];rw[if_pos trivial]
 ·show(((w.heap.push _).push _).push _)[w.heap.size+1]?=_;rw[Array.getElem?_push,Array.getElem?_push,Array.getElem?_push];exact v6h
structure Mbx(W:World)(g x m1:Nat)(nm ot:ByteArray)(wt:Nat):Prop where
 name:W.cell? ⟨g,5,none⟩=some (.string nm)
 other:W.cell? ⟨g,6,none⟩=some (.string ot)
 wt:W.cell? ⟨g,7,none⟩=some (.float .f64 wt)
 x0:W.cell? ⟨x,0,none⟩=some (.map (some m1))
theorem Mbx.below{W W' g x m1 wt nm ot}(h:Mbx W g x m1 nm ot wt)(Q:Bw W W'):Mbx W' g x m1 nm ot wt :=
 ⟨v5D,w8b,m0N,W4O⟩
theorem Mbx.block{W g x m1 r wt nm ot}(h:Mbx W g x m1 nm ot wt){Y:Array MapEntry}{cl} o(hr:W.heap[r]?=some (.map Y cl)):Mbx (setBlock W r o) g x m1 nm ot wt:=by
 have k:∀S j v,W.cell? ⟨S,j,none⟩=some v->(setBlock W r o).cell? ⟨S,j,none⟩=some v:=fun S j v T=>g3n
 exact⟨k _ _ _ h.name,k _ _ _ h.other,k _ _ _ h.wt,k _ _ _ h.x0⟩
theorem x7H v rs w(hv:Rcs w v rs)(y:∀r∈rs,r.kind=15->Sh r.name/\Sh r.other):Calls prog 89 #[v] w (MxtB w):=by
 obtain⟨W1,W2,W3,aA,aB,l,aF,aG,aj⟩:=z6f w;have aI:=hv.1;obtain⟨ao,az,z,_,_⟩:=hv.shape
 have p:Hid (∀k W,k<rs.length->Bw w W->∃b P,v=.slice (some ⟨b,P,none⟩) rs.length az/\RecAt W b (P+k*8) (rs.getD k Cn.none)):=fun k W hk hW=>by
  obtain⟨b,P,aH,d,_,_,hc⟩:=(hv.below hW).place f6J;rw[z]at d;obtain⟨e1,e2,e3⟩:=Value.slice.inj d;refine⟨b,P,?_,hc k hk⟩;rw[z,e1]
 have Z:Hid (∀k,k<rs.length->(rs.getD k Cn.none).kind=15->Sh (rs.getD k Cn.none).name/\Sh (rs.getD k Cn.none).other):=fun k hk h=>y _ E8R h;have af:=O aj;have aD:=y1o;clear hv y aj;subst z;go_enter func89,ntmps89;go_wp2;clear aD;go_loopw[5,10] (fun _ iv wr=>∃k:Nat,iv=.int .i64 k/\k<=rs.length/\Mst w wr) (fun _ iv _=>rs.length-(intOf iv).toNat)
 case atStart=>exact⟨0,rfl,f6J,V af⟩
 case round =>
  obtain⟨k,rfl,hk,hC⟩:=hrel;clear af aA aB l aF aG;by_cases ar:k<rs.length
  ·obtain⟨b,P,d,hA⟩:=V p k wr ar hC.bel;obtain⟨q1,_,_⟩:=Value.slice.inj d;clear d;subst q1;have B:=V Z k ar;obtain⟨x0,x1,x2,x3,⟨va,x4,ay⟩,x5,x6,x7⟩:=hA;obtain⟨t,L,rfl,_,_⟩:=ay.shape;clear p Z ay;generalize rs.getD k Cn.none=r at *;obtain⟨V1,am⟩:∃V1,wr.alloc (.cells #[.int .i64 r.kind,.int .i64 r.lo,.int .i64 r.hi,.int .i64 r.n,.slice t r.to.length L,.string r.name,.string r.other,.float .f64 r.wt] 67)=V1:=⟨_,rfl⟩;have T:Bw wr V1:=by rw[<- am];exact(b0r).alloc (l0r _) _
   have Q:V1.heap[wr.heap.size]?=some (.cells #[.int .i64 r.kind,.int .i64 r.lo,.int .i64 r.hi,.int .i64 r.n,.slice t r.to.length L,.string r.name,.string r.other,.float .f64 r.wt] 67 (0,0)):=by
    rw[<- am];exact s6Q
   have C:=hC.below T;have aL:∀W a m,(store a (.float .f64 r.wt) m).run prog W=stored prog W a (.float .f64 r.wt) m:=fun W a m=>run_store prog W a _ m rfl;obtain⟨x,z1,z2,z3,z4,z5,z6,z7⟩:=x4K Q;have Y:=O C;have D:Hid (Mbx V1 wr.heap.size (w.heap.size+2) (w.heap.size+1) r.name r.other r.wt):=⟨z5,z6,z7,cell_of (j:=0) C.hx w8q⟩;clear hC C T Q;by_cases h7:r.kind=15
   ·obtain⟨sa,sb⟩:=B h7;have M:=z3Z sa sb;have KE:Hid (∀W,Calls prog 140 #[.string r.name,.string r.other] W fun e w'=>e=.returned (pk (minS r.name r.other) (maxS r.name r.other))/\Bw W w'):=fun W=>x6s _ _ W;have U:Hid (∀W,Calls prog 139 #[.float .f64 r.wt] W fun e w'=>∃u n,e=.returned (.float .f64 u)/\w'=W.drewN n):=fun W=>y2t r.wt W;have A:Hid (∀W u,MxAt W (w.heap.size+1)->∃es q,(Instr.mapUpdate 151 (.map (some (w.heap.size+1))) (pk (minS r.name r.other) (maxS r.name r.other)) (.float .f64 u)).run prog W=.ok () (setBlock W (w.heap.size+1) (.map es q))/\∃c,GObj KN es q c):=fun W u h=>y9g h M.1 M.2 _;unfold pk at KE A;have ab:Hid (Mbx V1.drew wr.heap.size (w.heap.size+2) (w.heap.size+1) r.name r.other r.wt):=(V D).below (x0k ⟨1,rfl⟩);have ag:Hid (Mst w V1.drew):=(V Y).below (x0k ⟨1,rfl⟩);generalize minS r.name r.other=k1,maxS r.name r.other=k2,hkd:r.kind=kd at *;have E:(kd==15)=true:=(by rw[beq_iff_eq];exact h7);clear hkd h7 B sa sb M D Y;go_wp2;clear x0 x1 x2 x3 x4 x5 x6 x7 x z1 z2 z3 z4 z5 z6 z7;refine wp_region_held_drew (S:=fun w'=>Mbx w' wr.heap.size (w.heap.size+2) (w.heap.size+1) r.name r.other r.wt) f4y (V ab) (fun hHeld=>?_);refine tk9 0 (.pointer (some ⟨w.heap.size+2,0,none⟩)) ?_ (hy:=g4E);refine tk9 1 (.map (some (w.heap.size+1))) ?_ (hy:=g4E);refine tk9 2 (.pointer (some ⟨wr.heap.size,5,none⟩)) ?_ (hy:=g4E);refine tk9 3 (.string r.name) ?_ (hy:=g4E);refine tk9 4 (.pointer (some ⟨wr.heap.size,6,none⟩)) ?_ (hy:=g4E);refine tk9 5 (.string r.other) ?_ (hy:=g4E);refine tk9 7 (.pointer (some ⟨wr.heap.size,7,none⟩)) ?_ (hy:=g4E);refine tk9 8 (.float .f64 r.wt) ?_ (hy:=g4E);refine rd9 6 fun K hK=>?_;go_simp;refine c1m (V KE _) fun w2 F=>?_;have i:Hid (Mbx w2 wr.heap.size (w.heap.size+2) (w.heap.size+1) r.name r.other r.wt):=(V ab).below F;have I:Hid (Mst w w2):=(V ag).below F;clear F;refine hK.out _ _ ?_ (fun hHeld=>?_)
    ·exact V i
    clear hK K
    try simp only[Act.put,sa9,sb9,sc9]
    refine rd9 9 fun K hK=>?_;go_simp;refine(V U _).mono ?_;rintro e3 w3 ⟨u3,n3,rfl,g⟩;have s:Bw w2 w3:=(by rw[g];exact x0k ⟨n3,rfl⟩);clear g;have X:Hid (Mbx w3 wr.heap.size (w.heap.size+2) (w.heap.size+1) r.name r.other r.wt):=(V i).below s;have G:Hid (Mst w w3):=(V I).below s;obtain⟨es,q,hu,aq⟩:=V A w3 u3 (V G).mp;have R:=O ((V G).more aq)
    have ae:Hid (Mbx (setBlock w3 (w.heap.size+1) (.map es q)) wr.heap.size (w.heap.size+2) (w.heap.size+1) r.name r.other r.wt):=by
     obtain⟨_,aK,aJ,aC,_⟩:=(V G).mp;exact(V X).block _ aC
    clear s aq;refine hK.out _ _ ?_ (fun hHeld=>?_)
    ·exact V X
    clear hK K
    try simp only[Act.put,sa9,sb9,sc9]
    refine rd9 10 fun K hK=>?_;go_simp;refine hK.out _ _ ?_ (fun hHeld=>?_)
    ·exact V ae
    clear hK K;refine wpAnyH_done f4y ?_ _;clear hHeld hu ab i X ae ag I G KE U A;generalize setBlock w3 (w.heap.size+1) (.map es q)=W5 at *;go_wp2
    go_roundw
    case rel=>exact⟨k+1,g2A,f6J,V R⟩
    case measure=>exact g7V
   ·have E:(r.kind==15)=false:=b0f h7;clear D B h7;generalize r.kind=kd at *;go_wp2
    go_roundw
    case rel=>exact⟨k+1,g2A,f6J,V Y⟩
    case measure=>exact g7V
  ·obtain rfl:k=rs.length:=f6J;have hX:=hC.hx;have y0:=cell_of (j:=0) hX w8q;have F1:=hC.res;have x:=cell_of (j:=0) F1 w8q;have f0:=fun j=>x0e (j:=j) F1;obtain⟨F2,F3⟩:=hC.fin;have f:=O F2;have ai:=O F3;clear p Z hC hX F1 F2 F3;go_wp2;have aw:=V f;have J:=V ai;clear f ai y0 f0 x;generalize wr.setCell ⟨w.heap.size,0,none⟩ (.map (some (w.heap.size+1)))=aM at *;have x:=cell_of (j:=0) aw w8q;refine bodyPost_ret (v:=.agg #[.map (some (w.heap.size+1))]) (by simp[results,Tryz.results89,go_sem,x]) rfl J
