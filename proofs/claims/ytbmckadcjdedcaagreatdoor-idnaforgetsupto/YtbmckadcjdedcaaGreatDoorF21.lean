import Derived.Test.YtbmckadcjdedcaaGreatDoorF13
import Derived.Deep.RegionHeld
import Derived.Deep.AppendLies
import Derived.Test.YtbmckadcjdedcaaGreatDoorF22
set_option maxHeartbeats 8000000
set_option maxRecDepth 8000
namespace Go.Proofs.YtbmckadcjdedcaaGreatDoor
open Go.Proofs.Tryz
open Go.RowKit
open Ti
section
variable{p:Prop}
theorem M2c(h:p:=by
 have F:S≠r:=fun e=>by
  subst e;simp only[World.cell?,hr]at I;cases I
 rw[World.cell?_of_block (x0q F)];exact I):p:=h
theorem s4o(h:p:=by simp[zeroValue,typeInfo,run_program,Result.andThen,Z,D]):p:=h
theorem n7Y(h:p:=by rw[x0q f6J];exact h.res):p:=h
theorem n4i(h:p:=by(intro w hSw;obtain⟨H,N,s,C,R,B⟩:=hSw;go_simp)):p:=h
theorem m4C(h:p:=by rw[x0q f6J];exact h.hx):p:=h
theorem E8c(h:p:=by have:=h.sz;exact f6J):p:=h
theorem e4I(h:p:=by rw[World.size_alloc];exact f6J):p:=h
theorem E3k(h:p:=by rw[World.size_alloc,World.size_alloc];exact f6J):p:=h
theorem m7X(h:p:=by simp only[Array.size_push];rw[if_neg f6J,if_neg f6J,if_pos trivial]):p:=h
theorem M8R(h:p:=by rw[List.length_append,Ti.x2r];exact hr):p:=h
theorem P2k(h:p:=by rw[x1I];exact W):p:=h
theorem g4E(h:p:=by(intro w hSw;obtain⟨H,N,s2,s3⟩:=hSw;go_simp)):p:=h
theorem n5Z(h:p:=by show 0<2;exact f6J):p:=h
theorem u7D(h:p:=by rw[List.length_append];exact f6J):p:=h
theorem v6h(h:p:=by simp only[Array.size_push];rw[if_neg f6J,if_pos trivial]):p:=h
theorem w8r(h:p:=by show 0<1;exact f6J):p:=h
theorem w2h(h:p:=by show 1<2;exact f6J):p:=h
theorem T8Q(h:p:=by(intro w hSw;obtain⟨s0,s1,s2,s3,s4,s5,s6,s7⟩:=hSw;go_simp)):p:=h
end
namespace Cn
theorem x3l{g:Nat->Rec->Int}:∀(l:List Rec) (i:Nat) (r:Rec),rangesA g i (l++[r])=rangesA g i l++spoken r (g (i+l.length) r)
 | [],i,r=>by simp[rangesA]
 | x::l,i,r=>by
  rw[List.cons_append,rangesA,x3l l (i+1) r,rangesA,List.append_assoc,List.length_cons,(f6J:i+1+l.length=i+(l.length+1))]
theorem x5h{r}(h:right r=0)(G:r.kind≠15) v:(spoken r v).length<=1114112:=by
 obtain⟨N,s,C⟩:=x0n h G;unfold spoken;split
 ·simp
 ·rw[x5R]
  rename_i hc
  have J:=right_step h;have H:r.kind=4:=Decidable.byContradiction fun e=>hc (.inl e);unfold step at J;rw[if_pos H]at J;have:(r.hi-r.lo) / r.n<=r.hi-r.lo:=Int.ediv_le_self _ f6J;omega
theorem x3T{g:Nat->Rec->Int}:∀(l:List Rec) (i:Nat),(∀r∈l,right r=0/\r.kind≠15)->(rangesA g i l).length<=1114112*l.length
 | [],_,_=>by simp[rangesA]
 | r::l,i,h=>by
  rw[rangesA,List.length_append,List.length_cons];have Z:=x5h (h r M7K).1 (h r M7K).2 (g i r);have D:=x3T (g:=g) l (i+1) (fun x J=>h x (List.mem_cons_of_mem _ J));omega
end Cn
theorem y1u r v(h:Cn.right r=0)(G:r.kind≠15):0<(Cn.spoken r v).length:=by
 unfold Cn.spoken;split
 ·simp
 ·rw[Cn.x5R]
  rename_i hc
  obtain⟨N,s,C⟩:=Cn.x0n h G;have J:=Cn.right_step h;have H:r.kind=4:=Decidable.byContradiction fun e=>hc (.inl e);unfold Cn.step at J;rw[if_pos H]at J;have:=Int.ediv_nonneg (a:=r.hi-r.lo) (b:=r.n) f6J f6J;omega
theorem z2L{W0 w2 w4 bv v4}{xs ys:List Tri.Rg}(l:Bw W0 w2)(z:Or4 w2 W0.heap.size bv xs)(hy:FitR ys)(S:xs.length+ys.length<=5000000000)(hr:w4.ownsRow W0.heap.size 259 3 v4 (xs.length+ys.length) (Ti.rcells xs++Ti.rcells ys))(C:w2.grownBy w4 bv.ownBlock):Or4 w4 W0.heap.size v4 (xs++ys)/\Bw W0 w4 :=
 ⟨⟨fun r h=>by
  rcases List.mem_append.1 h with h|h
  ·exact z.1 r h
  ·exact hy r h,u7B,M8R⟩,l.grown C l.size (fun g Q=>(z.2.2.lt g Q).1)⟩
theorem y9C{w B v}{ys:List Tri.Rg}(h:Or4 w B v ys)(E:0<ys.length):∃g cap,v=.slice (some ⟨g,0,none⟩) ys.length cap/\∀j u,(Ti.rcells ys)[j]?=some u->w.cell? ((⟨g,0,none⟩:Addr).add j)=some u:=by
 rcases h.2.2.2 with⟨_,A⟩|⟨g,cap,T,rfl,_⟩
 ·omega
 ·exact⟨g,cap,rfl,fun j u K=>h.2.2.cells (g:=g) rfl j u K⟩
theorem z4O{w w' b kd lo hi n vt}{nm ot wt}(h:BoxAt w b kd lo hi n vt nm ot wt)(Y:w'.heap[b]?=w.heap[b]?):BoxAt w' b kd lo hi n vt nm ot wt:=by
 have e:∀j,w'.cell? ⟨b,j,none⟩=w.cell? ⟨b,j,none⟩:=fun j=>World.cell?_of_block Y;exact⟨by rw[e];exact h.1,by rw[e];exact h.2,by rw[e];exact h.3,by rw[e];exact h.4,by rw[e];exact h.5,by rw[e];exact h.6,by rw[e];exact h.7,by rw[e];exact h.8⟩
theorem y1B v rs kind w(hg:Glob w)(hv:Rcs w v rs)(G:I64 kind)(aK:∀r∈Cn.famOf (Cn.fam kind) rs,Cn.right r=0/\r.kind≠15/\Fi (Cn.value r))(hl:(Cn.famOf (Cn.fam kind) rs).length<=4096)(I:∀m:List Tri.Rg,m.Perm (Cn.rangesA (fun _ r=>Cn.value r) 1 (Cn.famOf (Cn.fam kind) rs))->(m.Pairwise fun x y=>Tri.lo x<=Tri.lo y)->Tri.Val 0 m):Calls prog 86 #[v,.int .i64 kind] w (x6g w (Cn.rangesA (fun _ r=>Cn.value r) 1 (Cn.famOf (Cn.fam kind) rs))):=by
 obtain⟨i0,aO,aT,aU,aV⟩:=info_parts Tryz.info259;have K1:=O (x5q v rs kind w hg hv G);unfold FamB at K1;obtain⟨ao,af,aS,_,_⟩:=hv.shape;generalize Cn.famOf (Cn.fam kind) rs=M at *;have D:=O aK;have ae:=O I;clear hv hg aK I;subst aS;go_enter func86,ntmps86;go_wp2_with fail;refine(V K1).mono ?_;rintro e1 w1 ⟨v1,ps,rfl,X,hR,E⟩;have aP:ps.length=M.length:=(by rw[<- X,List.length_map]);have q:Rcs w1 v1 M:=by rw[<- X];exact hR.rsx.rcs E f6J
 have c:Hid (∀k,(Cn.rangesA (fun _ r=>Cn.value r) 1 (M.take k)).length<=4563402752):=fun k=>by
  have h1:=Cn.x3T (g:=fun _ r=>Cn.value r) (M.take k) 1 (fun r hr=>⟨(V D r (List.mem_of_mem_take hr)).1,(V D r (List.mem_of_mem_take hr)).2.1⟩);have h2:(M.take k).length<=M.length:=List.length_take_le' _ _;omega
 have p:Hid (∀k,k<M.length->∃b P af,v1=.slice (some ⟨b,P,none⟩) M.length af/\RecAt w1 b (P+k*8) (M.getD k Cn.none)/\RecFit (M.getD k Cn.none)):=fun k G=>by
  obtain⟨b,P,af,he,_,_,hc⟩:=q.place f6J;exact⟨b,P,af,he,hc k G,q.fit G⟩
 have T:Hid (∀k,k<M.length->Cn.rangesA (fun _ r=>Cn.value r) 1 (M.take (k+1))=Cn.rangesA (fun _ r=>Cn.value r) 1 (M.take k)++Cn.spoken (M.getD k Cn.none) (Cn.value (M.getD k Cn.none))):=fun k G=>by
  have e:M.take (k+1)=M.take k++[M.getD k Cn.none]:=by
   rw[List.take_add_one];simp[List.getD,G]
  rw[e,Cn.x3l]
 have d:Hid (∀e w',x6g w1 (Cn.rangesA (fun _ r=>Cn.value r) 1 M) e w'->x6g w (Cn.rangesA (fun _ r=>Cn.value r) 1 M) e w'):=fun e w' h=>by
  obtain⟨a,m,h1,h2,h3,h4,h5⟩:=h;exact⟨a,m,h1,h2,h3,h4.lower E.size,x0b E h5⟩
 obtain⟨ba,aX,aM,_,_⟩:=q.shape;subst aM;clear K1 X hR q aP E;go_wp2;go_loopw[5,7,12] (fun rv _ iv wr=>∃k:Nat,iv=.int .i64 k/\k<=M.length/\Or4 wr w1.heap.size rv (Cn.rangesA (fun _ r=>Cn.value r) 1 (M.take k))/\Bw w1 wr) (fun _ _ iv _=>M.length-(intOf iv).toNat)
 case atStart=>exact⟨0,rfl,f6J,Or4.nil _ _,b0r⟩
 case round =>
  obtain⟨k,rfl,G,z,ab⟩:=hrel;by_cases H:k<M.length
  ·obtain⟨b,P,aW,he,hA,l⟩:=V p k H;obtain⟨e1,e2,e3⟩:=Value.slice.inj he;clear e2 e3 he;subst e1;obtain⟨F,N,aL⟩:=V D (M.getD k Cn.none) N3H;have Q:=O (V T k H);have bj:=V c k;obtain⟨y0,y1,y2,y3,⟨va,y4,Z⟩,y5,y6,y7⟩:=hA;obtain⟨B,L,rfl,_,_⟩:=Z.shape;have hold:∀j u,w1.cell? ⟨b,P+k*8+j,none⟩=some u->wr.cell? ⟨b,P+k*8+j,none⟩=some u:=fun j u h=>(by rw[ab.cell (x0a h)];exact h);have x0:wr.cell? ⟨b,P+k*8,none⟩=_:=hold 0 _ y0;have x1:=hold 1 _ y1;have x2:=hold 2 _ y2;have x3:=hold 3 _ y3;have x4:=hold 4 _ y4;have x5:=hold 5 _ y5;have x6:=hold 6 _ y6;have x7:=hold 7 _ y7;clear hold y0 y1 y2 y3 y4 y5 y6 y7 p T ae d;generalize M.getD k Cn.none=r at *;have aN:∀W a m,(store a (.float .f64 r.wt) m).run prog W=stored prog W a (.float .f64 r.wt) m:=fun W a m=>run_store prog W a _ m rfl;obtain⟨f,be,aJ,ay⟩:=x0L wr r.kind r.lo r.hi r.n (.slice B r.to.length L) r.name r.other r.wt;have U:=O (x0b ab ay);have Y:Hid (∀W,Bw f W->BoxAt W wr.heap.size r.kind r.lo r.hi r.n (.slice B r.to.length L) r.name r.other r.wt):=fun W h=>aJ.keep h;have aB:Hid (∀W,Bw f W->Or4 W w1.heap.size u5 (Cn.rangesA (fun _ r=>Cn.value r) 1 (M.take k))/\Bw w1 W):=fun W h=>⟨(z.below ay).below h,x0b (V U) h⟩;have KV:Hid (∀W,Bw f W->Calls prog 137 #[recV r (.slice B r.to.length L)] W (IntB W (Cn.value r))):=fun W h=>y6F r _ W l (Z.below (x0b (V U) h));have KS:Hid (∀W,Bw f W->Calls prog 136 #[recV r (.slice B r.to.length L),.int .i64 (Cn.value r)] W (y6Q W (Cn.spoken r (Cn.value r)))):=fun W h=>x7o r _ _ W l (Z.below (x0b (V U) h)) F N aL;have aR:=y1u r (Cn.value r) F N;have bh:=Cn.x5h F N (Cn.value r);unfold recV at KV KS;obtain⟨z0,z1,z2,z3,z4,z5,z6,z7⟩:=aJ;have aA:Hid (u5.ownBlock≠some wr.heap.size):=fun e=>(by have:=(z.2.2.lt _ e).2;exact f6J);have aC:Hid (wr.heap.size<f.heap.size):=x0a z0;clear z ab ay l Z F N aL D c;generalize Cn.spoken r (Cn.value r)=ys at *;generalize Cn.value r=vv at *;generalize Cn.rangesA (fun _ r=>Cn.value r) 1 (M.take k)=xs,r.kind=kd,r.lo=lo,r.hi=hi,r.n=n at *;generalize r.name=nm,r.other=ot,r.wt=wt,r.to.length=tl at *;go_wp2;clear U x0 x1 x2 x3 x4 x5 x6 x7 z0 z1 z2 z3 z4 z5 z6 z7 aN;refine wp_region_held_drew (S:=fun w'=>BoxAt w' wr.heap.size kd lo hi n (.slice B tl L) nm ot wt) f4y (V Y _ (x0k ⟨1,rfl⟩)) (fun hHeld=>?_);refine tk9 0 u5 ?_;refine tk9 1 (.agg #[.int .i64 kd,.int .i64 lo,.int .i64 hi,.int .i64 n,.slice B tl L,.string nm,.string ot,.float .f64 wt]) ?_ (hy:=T8Q);refine tk9 2 (.agg #[.int .i64 kd,.int .i64 lo,.int .i64 hi,.int .i64 n,.slice B tl L,.string nm,.string ot,.float .f64 wt]) ?_ (hy:=T8Q);refine rd9 3 fun K hK=>?_;go_simp;refine c1m (V KV _ (x0k ⟨1,rfl⟩)) fun w2 aI=>?_;have i:=O (x0b (x0k ⟨1,rfl⟩) aI:Bw f w2);clear aI;refine hK.out _ _ ?_ (fun hHeld=>?_)
   ·exact V Y _ (V i)
   clear hK K
   try simp only[Act.put,sa9,sb9,sc9]
   refine rd9 4 fun K hK=>?_;go_simp;refine(V KS _ (V i)).mono ?_;rintro e3 w3 ⟨v3,rfl,aw,s⟩;have aq:=x0b (V i) s;obtain⟨g3,aD,rfl,am⟩:=y9C aw aR;have ar:=V aB _ aq;have aY:=ar.2.size;have HM:=O ar;have az:=O aw.1;have ai:=O am;have ag:=O (Ti.x4X ys);have J:=O aq;clear aw s aq ar am;refine hK.out _ _ ?_ (fun hHeld=>?_)
   ·exact V Y _ (V J)
   clear hK K
   try simp only[Act.put,sa9,sb9,sc9]
   refine rd9 5 fun K hK=>?_;refine step_append_lies _ (by rfl) (.tmp 16) (.tmp 20) 203 (by rfl) w1.heap.size 259 i0 (.agg #[.int .i64 0,.int .i64 0,.int .i64 0]) 3 24 underlying203 aO aT aU aV rfl f6J u5 xs.length (Ti.rcells xs) (by rfl) (V HM).1.2.2 ⟨g3,0,none⟩ ys.length aD (Ti.rcells ys) (by rfl) (by rw[Ti.x1R]) (V ai) (V ag) f6J T7X f6J f6J w3.heap.size rfl ?_;intro gg aF w8 C A aH t;have aj:=z4O (V Y _ (V J)) (A.block wr.heap.size (Nat.lt_of_lt_of_le (V aC) (V J).size) (fun e=>V aA e.symm));have R:=z2L (V HM).2 (V HM).1 (V az) f6J C A;rw[<- V Q]at R;have HR:=O R;clear R C A aH;refine hK.out _ _ ?_ (fun hHeld=>?_)
   ·exact aj
   clear hK K aj
   try simp only[Act.put,sa9,sb9,sc9]
   refine tk9 6 (.slice (some ⟨gg,0,none⟩) (xs.length+ys.length) aF) ?_;refine wpAnyH_done f4y ?_ _;clear hHeld HM az ai ag aB Y KV KS Q i J aA aC t;go_wp2
   go_roundw
   case rel=>exact⟨k+1,g2D,f6J,(V HR).1,(V HR).2⟩
   case measure=>exact g7V
  ·obtain rfl:k=M.length:=f6J;rw[List.take_of_length_le (l0r _)]at z;have KB:=O (y7i w1 wr _ _ ab z (by have:=V c M.length;rw[List.take_of_length_le (l0r _)]at this;exact f6J) (V ae));obtain⟨ro,aZ,aQ,_,_⟩:=z.sr.shape;subst aQ;clear z ab p T D c ae;go_wp2_with fail;refine(V KB).mono ?_;intro e w9 aG;have h9:=V d e w9 aG;obtain⟨a,m,rfl,q2,q3,q4,q5⟩:=h9;have HF:x6g w (Cn.rangesA (fun _ r=>Cn.value r) 1 M) (.returned (.pointer (some a))) w9:=⟨a,m,rfl,q2,q3,q4,q5⟩;clear KB aG d q2 q3 q4 q5;go_wp2;go_ret;exact HF
open Ti
def SpkB(w:World)(fs:List Rec)(e:Ending)(w':World):Prop:=∃a m vl ps,e=.returned (.agg #[.pointer (some a),vl])/\m.Perm (Cn.rangesA (fun i _=>(i:Int)) 1 fs)/\(m.Pairwise fun x y=>Tri.lo x<=Tri.lo y)/\T4 w' w.heap.size (.pointer (some a)) m 0/\Rown w' w.heap.size vl ps/\ps.map (·.1)=Cn.none::fs/\Below w.heap.size w w'
structure Spst(w w1 wr:World)(rv lv:Value)(xs:List Tri.Rg)(ps:List (Rec×Value)):Prop where
 bel:Below w.heap.size w wr
 sz:w1.heap.size<=wr.heap.size
 s1:w.heap.size+2<=w1.heap.size
 old:∀g,g<w1.heap.size->g≠w.heap.size+1->wr.heap[g]?=w1.heap[g]?
 res:w1.heap[w.heap.size]?=some (.cells #[.pointer none,.slice none 0 0] 138 (0,0))
 rng:Or4 wr w1.heap.size rv xs
 rcs:Rown wr w.heap.size lv ps
 lvb:∀g,lv.ownBlock=some g->g=w.heap.size+1\/w1.heap.size<=g
section
variable {w w1 wr w':World} {rv lv v' vt:Value} {xs ys:List Tri.Rg} {ps:List (Rec×Value)} {r:Rec} {o:Obj}
theorem Spst.below(h:Spst w w1 wr rv lv xs ps)(Y:Bw wr w'):Spst w w1 w' rv lv xs ps :=
 ⟨x0b h.bel Y,Nat.le_trans h.sz Y.size,h.s1,fun g Z D=>by rw[Y.block g E8c];exact h.old g Z D,h.res,h.rng.below Y,⟨x0x h.rcs.1 fun g C=>Y.block g (h.rcs.1.lt g C).2,fun p L=>(h.rcs.2 p L).below Y⟩,h.lvb⟩
theorem Spst.keep(h:Spst w w1 wr rv lv xs ps){B}(U:wr.heap.size<=w'.heap.size)(Y:Bw w w')(l:w1.heap.size<=B)(G:∀g,g<wr.heap.size->g≠B->w'.heap[g]?=wr.heap[g]?)(hr:rv.ownBlock≠some B)(S:lv.ownBlock≠some B)(L:∀p∈ps,p.2.ownBlock≠some B):Spst w w1 w' rv lv xs ps :=
 ⟨Y,Nat.le_trans h.sz U,h.s1,fun g Z D=>by rw[G g E8c f6J];exact h.old g Z D,h.res,⟨h.rng.1,h.rng.2.1,x0x h.rng.2.2 fun g C=>G g (h.rng.2.2.lt g C).2 (fun e=>hr (by rw[C,e]))⟩,
  ⟨x0x h.rcs.1 fun g C=>G g (h.rcs.1.lt g C).2 (fun e=>S (by rw[C,e])),fun p T=>(h.rcs.2 p T).keep fun g C=>G g ((h.rcs.2 p T).2.2.lt g C).2 (fun e=>L p T (by rw[C,e]))⟩,h.lvb⟩
theorem Spst.ranges(h:Spst w w1 wr rv lv xs ps)(hy:FitR ys)(S:xs.length+ys.length<=5000000000)(hr:w'.ownsRow w1.heap.size 259 3 v' (xs.length+ys.length) (Ti.rcells xs++Ti.rcells ys))(C:wr.grownBy w' rv.ownBlock):Spst w w1 w' v' lv (xs++ys) ps:=by
 have k:∀g,g<wr.heap.size->rv.ownBlock≠some g->w'.heap[g]?=wr.heap[g]?:=fun g Z D=>C.block g Z (fun e=>D e.symm);have B:∀g,rv.ownBlock=some g->w1.heap.size<=g:=fun g Q=>(h.rng.2.2.lt g Q).1;refine⟨h.bel.grown C h.bel.size (fun g Q=>Nat.le_trans u6j (B g Q)),Nat.le_trans h.sz C.size,h.s1,fun g Z D=>?_,h.res,⟨fun x hx=>?_,u7D,M8R⟩,⟨x0x h.rcs.1 fun g Q=>k g (h.rcs.1.lt g Q).2 (x0N h.rcs.1 h.rng.2.2 e8N Q),fun p L=>?_⟩,h.lvb⟩
 ·rw[k g E8c (fun e=>by have:=B g e;exact f6J)];exact h.old g Z D
 ·rcases List.mem_append.1 hx with hx|hx
  ·exact h.rng.1 x hx
  ·exact hy x hx
 ·have i:=h.rcs.2 p L;exact i.keep fun g Q=>k g (i.2.2.lt g Q).2 (x0N i.2.2 h.rng.2.2 e8N Q)
theorem Spst.more(h:Spst w w1 wr rv lv xs ps)(A:Ok .i32 21 wr w.heap.size vt r.to){gg cap}(hr:w'.ownsRow w.heap.size 67 8 (.slice (some ⟨gg,0,none⟩) (ps.length+1) cap) (ps.length+1) (rcells ps++x0z (r,vt)))(C:(wr.alloc o).grownBy w' lv.ownBlock)(N:lv.ownBlock=some gg\/gg=wr.heap.size+1):Spst w w1 w' rv (.slice (some ⟨gg,0,none⟩) (ps.length+1) cap) xs (ps++[(r,vt)]):=by
 have U:=h.bel.size;have q:=h.sz;have T:=h.s1
 have k:∀g,g<wr.heap.size->lv.ownBlock≠some g->w'.heap[g]?=wr.heap[g]?:=fun g Z D=>by
  rw[C.block g e4I (fun e=>D e.symm)];exact((Below.refl wr.heap.size wr).alloc (l0r _) o).block g Z
 refine⟨(h.bel.alloc U o).grown C e4I (fun g Q=>(h.rcs.1.lt g Q).1),Nat.le_trans q (by have:=C.size;rw[World.size_alloc]at this;exact f6J),T,fun g Z D=>?_,h.res,⟨h.rng.1,h.rng.2.1,x0x h.rng.2.2 fun g Q=>k g (h.rng.2.2.lt g Q).2 (x0N h.rng.2.2 h.rcs.1 e8N Q)⟩,⟨?_,fun p hp=>?_⟩,fun g Q=>?_⟩
 ·rw[k g f6J (fun e=>by rcases h.lvb g e with h3|h3<;>omega)];exact h.old g Z D
 ·rw[x3U]at hr;simpa using hr
 ·rcases List.mem_append.1 hp with hp|hp
  ·have i:=h.rcs.2 p hp;exact i.keep fun g Q=>k g (i.2.2.lt g Q).2 (x0N i.2.2 h.rcs.1 e8N Q)
  ·simp only[List.mem_singleton]at hp;subst hp;exact A.keep fun g Q=>k g (A.2.2.lt g Q).2 (x0N A.2.2 h.rcs.1 e8N Q)
 ·simp only[Value.ownBlock,Option.some.injEq]at Q;subst Q;rcases N with h3|h3
  ·exact h.lvb _ h3
  ·exact .inr f6J
end
theorem z6N w:∃W1 X,w.alloc (.cells #[.pointer none,.slice none 0 0] 138)=W1/\W1.alloc (.cells #[.int .i64 0,.int .i64 0,.int .i64 0,.int .i64 0,.slice none 0 0,.string ⟨#[]⟩,.string ⟨#[]⟩,.float .f64 0] 67)=X/\Bw w X/\W1.heap.size=w.heap.size+1/\X.heap.size=w.heap.size+2/\∀w1,Bw X w1->Spst w w1 w1 (.slice none 0 0) (.slice (some ⟨w.heap.size+1,0,none⟩) 1 1) [] [(Cn.none,.slice none 0 0)]:=by
 refine⟨_,_,rfl,rfl,((b0r).alloc (l0r _) _).alloc M7M _,World.size_alloc _ _,by rw[World.size_alloc,World.size_alloc],fun w1 Y=>?_⟩;have U:=Y.size;rw[World.size_alloc,World.size_alloc]at U;have A:Bw w ((w.alloc (.cells #[.pointer none,.slice none 0 0] 138)).alloc (.cells #[.int .i64 0,.int .i64 0,.int .i64 0,.int .i64 0,.slice none 0 0,.string ⟨#[]⟩,.string ⟨#[]⟩,.float .f64 0] 67)):=((b0r).alloc (l0r _) _).alloc M7M _;refine⟨x0b A Y,l0r _,f6J,fun g _ _=>rfl,?_,Or4.nil _ _,⟨⟨rfl,.inr ⟨w.heap.size+1,1,#[.int .i64 0,.int .i64 0,.int .i64 0,.int .i64 0,.slice none 0 0,.string ⟨#[]⟩,.string ⟨#[]⟩,.float .f64 0],rfl,f6J,?_,l0r _,T7W,rfl,rfl⟩⟩,fun p L=>?_⟩,fun g C=>?_⟩
 ·rw[Y.block _ E3k];exact n9Y
 ·rw[Y.block _ E3k];show((w.heap.push _).push _)[w.heap.size+1]?=_;rw[Array.getElem?_push,if_pos M7M]
 ·simp only[List.mem_singleton]at L;subst L;exact n7i
 ·simp only[Value.ownBlock,Option.some.injEq]at C;exact .inl C.symm
theorem z8K(k:Nat) z(h:[Value.int .i64 0,.int .i64 0,.int .i64 0,.int .i64 0,.slice none 0 0,.string ⟨#[]⟩,.string ⟨#[]⟩,.float .f64 0][k]?=some (.int .i32 z)):False:=by grind
theorem z9C{w1 W B}(l:w1.heap[B]?=some (.cells #[.int .i64 0,.int .i64 0,.int .i64 0,.int .i64 0,.slice none 0 0,.string ⟨#[]⟩,.string ⟨#[]⟩,.float .f64 0] 67 (0,0)))(G:∀g,g<w1.heap.size->g≠B->W.heap[g]?=w1.heap[g]?){va zs}(h:Sk .i32 w1 va zs):Sk .i32 W va zs:=by
 obtain⟨Z,D,R⟩:=h;refine⟨Z,D,?_⟩;rcases R with R|⟨b,P,M,e,j,K,q⟩
 ·exact .inl R
 ·refine .inr ⟨b,P,M,e,j,K,fun i hi=>?_⟩;have I:=q i hi
  have F:b≠B:=fun e=>by
   subst e;rw[x9m .i32 zs i w3y]at I;simp only[World.cell?,l]at I;exact z8K _ _ v0B
  rw[World.cell?_of_block (G b (x0a I) F)];exact I
theorem z2N{w:World}{B e W n:Nat}{v us}(h:w.ownsRow B e W v n us){g}(C:v.ownBlock=some g):∃T,w.heap[g]?=some (.cells T e (0,0)):=by
 rcases h.2 with⟨rfl,_⟩|⟨S,M,T,rfl,_,a,_⟩
 ·cases C
 ·simp only[Value.ownBlock,Option.some.injEq]at C;subst C;exact⟨T,a⟩
theorem z0x{w:World}{B e K W n g:Nat}{v us cur}(h:w.ownsRow B e W v n us)(a:w.heap[g]?=some (.cells cur K (0,0)))(F:e≠K):v.ownBlock≠some g:=fun C=>by
 obtain⟨c,I⟩:=z2N h C;rw[a]at I;simp only[Option.some.injEq,Obj.cells.injEq]at I;exact F I.2.1.symm
theorem x4J{w:World}{g c0 c1 c2 c3 c4 c5 c6 c7}(h:w.heap[g]?=some (.cells #[c0,c1,c2,c3,c4,c5,c6,c7] 67 (0,0))):w.cell? ⟨g,0,none⟩=some c0/\w.cell? ⟨g,1,none⟩=some c1/\w.cell? ⟨g,2,none⟩=some c2/\w.cell? ⟨g,3,none⟩=some c3/\w.cell? ⟨g,4,none⟩=some c4/\w.cell? ⟨g,5,none⟩=some c5/\w.cell? ⟨g,6,none⟩=some c6/\w.cell? ⟨g,7,none⟩=some c7 :=
 ⟨cell_of (j:=0) h s5q,cell_of (j:=1) h G0Z,cell_of (j:=2) h V3Y,cell_of (j:=3) h e8d,cell_of (j:=4) h e2U,cell_of (j:=5) h i3Y,cell_of (j:=6) h F4N,cell_of (j:=7) h U3M⟩
def y6L(w:World)(v:Value)(xs:List Tri.Rg)(e:Ending)(w':World):Prop:=∃a m,e=.returned (.pointer (some a))/\m.Perm xs/\(m.Pairwise fun x y=>Tri.lo x<=Tri.lo y)/\T4 w' w.heap.size (.pointer (some a)) m 0/\w.grownBy w' v.ownBlock
theorem y5r{a b c:World}{row}(h:a.grownBy b row)(k:Bw b c):a.grownBy c row:=by
 refine⟨k.os.trans h.os,k.tape.trans h.tape,k.output.trans h.output,Nat.le_trans h.size k.size,fun g Z D=>?_⟩;rw[k.block g (Nat.lt_of_lt_of_le Z h.size)];exact h.block g Z D
theorem y4N B w v(xs:List Tri.Rg)(h:Or4 w B v xs)(S:xs.length<=5000000000)(N:∀m:List Tri.Rg,m.Perm xs->(m.Pairwise fun x y=>Tri.lo x<=Tri.lo y)->Tri.Val 0 m):Calls prog 138 #[v] w (y6L w v xs):=by
 have H:=O (y1s w B v xs h S);have E:=O N;obtain⟨R,M,rfl,_,_⟩:=h.sr.shape;go_enter func138,ntmps138;go_wp2_with fail;refine(V H).mono ?_;rintro P w1 ⟨rfl,ys,L,D,s,C⟩;have I:=V E ys L D;have G:=O (z3H _ ys 0 w1 s ⟨f6J,f6J⟩);have n:(Tri.check 0 ys).2=0:=Tri.x4d.2 ⟨I,f6J,f6J⟩;have t:=O n;have A:=O L;have J:=O D;have W:=O C;go_wp2_with fail;refine(V G).mono ?_;rintro f d ⟨F,⟨_,a,rfl,p⟩|⟨X,_⟩⟩
 ·have T:y6L w (.slice R xs.length M) xs (.returned (.pointer (some a))) d:=⟨a,ys,rfl,V A,V J,p.lower (V W).size,y5r (V W) F⟩;exact U7G
 ·exact absurd (V t) X
theorem Spst.fin{w w1 wr w9 rv lv}{xs:List Tri.Rg}{ps:List (Rec×Value)}(h:Spst w w1 wr rv lv xs ps)(C:wr.grownBy w9 rv.ownBlock){a}{m:List Tri.Rg}(E:T4 w9 wr.heap.size (.pointer (some a)) m 0) :
  w9.heap[w.heap.size]?=some (.cells #[.pointer none,.slice none 0 0] 138 (0,0)) /\
  ((w9.setCell ⟨w.heap.size,0,none⟩ (.pointer (some a))).setCell ⟨w.heap.size,1,none⟩ lv).heap[w.heap.size]?=some (.cells #[.pointer (some a),lv] 138 (0,0)) /\
  T4 ((w9.setCell ⟨w.heap.size,0,none⟩ (.pointer (some a))).setCell ⟨w.heap.size,1,none⟩ lv) w.heap.size (.pointer (some a)) m 0/\Rown ((w9.setCell ⟨w.heap.size,0,none⟩ (.pointer (some a))).setCell ⟨w.heap.size,1,none⟩ lv) w.heap.size lv ps /\
  Bw w ((w9.setCell ⟨w.heap.size,0,none⟩ (.pointer (some a))).setCell ⟨w.heap.size,1,none⟩ lv):=by
 have N:=h.s1;have W:=h.sz;have k:∀g,g<wr.heap.size->rv.ownBlock≠some g->w9.heap[g]?=wr.heap[g]?:=fun g Z D=>C.block g Z (fun e=>D e.symm);have B:∀g,rv.ownBlock=some g->w1.heap.size<=g:=fun g Q=>(h.rng.2.2.lt g Q).1
 have R:w9.heap[w.heap.size]?=some (.cells #[.pointer none,.slice none 0 0] 138 (0,0)):=by
  rw[k _ f6J (fun e=>by have:=B _ e;exact f6J),h.old _ f6J f6J];exact h.res
 have A:Rown w9 w.heap.size lv ps:=⟨x0x h.rcs.1 fun g Q=>k g (h.rcs.1.lt g Q).2 (x0N h.rcs.1 h.rng.2.2 e8N Q),fun p L=>(h.rcs.2 p L).keep fun g Q=>k g ((h.rcs.2 p L).2.2.lt g Q).2 (x0N (h.rcs.2 p L).2.2 h.rng.2.2 e8N Q)⟩;have z:∀g,g≠w.heap.size->((w9.setCell ⟨w.heap.size,0,none⟩ (.pointer (some a))).setCell ⟨w.heap.size,1,none⟩ lv).heap[g]?=w9.heap[g]?:=fun g F=>(by rw[x0g _ F,x0g _ F]);have d:Bw w w9:=h.bel.grown C h.bel.size (fun g Q=>by have:=B g Q;exact f6J);refine⟨R,?_,?_,⟨x0x A.1 fun g Q=>z g (fun e=>z0x A.1 R e8N (by rw[Q,e])),fun p L=>(A.2 p L).keep fun g Q=>z g (fun e=>z0x (A.2 p L).2.2 R e8N (by rw[Q,e]))⟩,x0d (x0d d (l0r _) _) (l0r _) _⟩
 ·rw[x0f (x0f R _)];rfl
 ·exact T4.lower (E.keep (by rw[x1a,x1a];exact l0r _) fun g Z _=>z g f6J) f6J
open Go.RowKit Go.MapKept Go.WideMaps
open Go.ChangeMaps (setBlock)
theorem x3X{w b o}(h:b<w.heap.size):(setBlock w b o).heap[b]?=some o:=by
 show(w.heap.setIfInBounds b o)[b]?=_;simp[h]
theorem x0q{w b g o}(h:g≠b):(setBlock w b o).heap[g]?=w.heap[g]?:=by
 show(w.heap.setIfInBounds b o)[g]?=_;simp[Ne.symm h]
theorem x1I w b o:(setBlock w b o).heap.size=w.heap.size:=by
 show(w.heap.setIfInBounds b o).size=_;simp
theorem x3N{B a w}(h:Below B a w){b}(Y:B<=b) o:Below B a (setBlock w b o):=by
 refine⟨h.os,h.tape,h.output,?_,fun g C=>?_⟩
 ·rw[x1I];exact h.size
 ·rw[x0q f6J];exact h.block g C
structure Cst(w wr:World)(lp ls:List Rec):Prop where
 bel:Below w.heap.size w wr
 sz:w.heap.size+4<=wr.heap.size
 res:wr.heap[w.heap.size]?=some (.cells #[.map none,.map none] 149 (0,0))
 hx:wr.heap[w.heap.size+3]?=some (.cells #[.map (some (w.heap.size+1)),.map (some (w.heap.size+2))] 149 (0,0))
 mp:GAt KP wr (w.heap.size+1) (x3B lp)
 ms:GAt KR wr (w.heap.size+2) (secC ls)
section
variable {w wr w':World} {lp ls lp' ls':List Rec}
theorem Cst.below(h:Cst w wr lp ls)(Y:Bw wr w'):Cst w w' lp ls:=by
 have W:=h.sz;obtain⟨P,j,U,G⟩:=h.mp;obtain⟨f,K,N,s⟩:=h.ms;exact⟨x0b h.bel Y,Nat.le_trans W Y.size,by rw[Y.block _ f6J];exact h.res,by rw[Y.block _ f6J];exact h.hx,⟨P,j,by rw[Y.block _ f6J];exact U,G⟩,⟨f,K,by rw[Y.block _ f6J];exact N,s⟩⟩
theorem Cst.pair(h:Cst w wr lp ls){A:Array MapEntry}{cl}(C:GObj KP A cl (x3B lp')):Cst w (setBlock wr (w.heap.size+1) (.map A cl)) lp' ls:=by
 have W:=h.sz;obtain⟨f,K,N,s⟩:=h.ms;exact⟨x3N h.bel f6J _,P2k,n7Y,m4C,⟨A,cl,x3X f6J,C⟩,⟨f,K,by rw[x0q f6J];exact N,s⟩⟩
theorem Cst.second(h:Cst w wr lp ls){A:Array MapEntry}{cl}(C:GObj KR A cl (secC ls')):Cst w (setBlock wr (w.heap.size+2) (.map A cl)) lp ls':=by
 have W:=h.sz;obtain⟨f,K,N,s⟩:=h.mp;exact⟨x3N h.bel f6J _,P2k,n7Y,m4C,⟨f,K,by rw[x0q f6J];exact N,s⟩,⟨A,cl,x3X f6J,C⟩⟩
def CmpB(w:World)(rs:List Rec)(e:Ending)(w':World):Prop:=∃r1 r2,e=.returned (.agg #[.map (some r1),.map (some r2)])/\w.heap.size<=r1/\w.heap.size<=r2/\GAt KP w' r1 (x3B rs)/\GAt KR w' r2 (secC rs)/\Below w.heap.size w w'
theorem Cst.fin(h:Cst w wr lp lp):((wr.setCell ⟨w.heap.size,0,none⟩ (.map (some (w.heap.size+1)))).setCell ⟨w.heap.size,1,none⟩ (.map (some (w.heap.size+2)))).heap[w.heap.size]?=some (.cells #[.map (some (w.heap.size+1)),.map (some (w.heap.size+2))] 149 (0,0)) /\
  CmpB w lp (.returned (.agg #[.map (some (w.heap.size+1)),.map (some (w.heap.size+2))])) ((wr.setCell ⟨w.heap.size,0,none⟩ (.map (some (w.heap.size+1)))).setCell ⟨w.heap.size,1,none⟩ (.map (some (w.heap.size+2)))):=by
 have W:=h.sz;have z:∀g,g≠w.heap.size->((wr.setCell ⟨w.heap.size,0,none⟩ (.map (some (w.heap.size+1)))).setCell ⟨w.heap.size,1,none⟩ (.map (some (w.heap.size+2)))).heap[g]?=wr.heap[g]?:=fun g F=>(by rw[x0g _ F,x0g _ F]);obtain⟨P,j,U,G⟩:=h.mp;obtain⟨f,K,N,s⟩:=h.ms;refine⟨by rw[x0f (x0f h.res _)];rfl,_,_,rfl,f6J,f6J,⟨P,j,by rw[z _ f6J];exact U,G⟩,⟨f,K,by rw[z _ f6J];exact N,s⟩,x0d (x0d h.bel (l0r _) _) (l0r _) _⟩
end
theorem z4Z w:∃W1 X x G,w.alloc (.cells #[.map none,.map none] 149)=W1/\W1.alloc (.map #[] 0)=X/\X.alloc (.map #[] 0)=x/\x.alloc (.cells #[.map (some (w.heap.size+1)),.map (some (w.heap.size+2))] 149)=G/\W1.heap.size=w.heap.size+1/\X.heap.size=w.heap.size+2/\x.heap.size=w.heap.size+3/\Cst w G [] []:=by
 refine⟨_,_,_,_,rfl,rfl,rfl,rfl,M7M,M7M,M7M,?_⟩;have Y:Bw w ((((w.alloc (.cells #[.map none,.map none] 149)).alloc (.map #[] 0)).alloc (.map #[] 0)).alloc (.cells #[.map (some (w.heap.size+1)),.map (some (w.heap.size+2))] 149)):=((((b0r).alloc (l0r _) _).alloc M7M _).alloc P8P _).alloc P8P _;refine⟨Y,M7M,?_,?_,⟨#[],0,?_,y8u _ _ y9F⟩,⟨#[],0,?_,y8u _ _ z3f⟩⟩
 ·show((((w.heap.push _).push _).push _).push _)[w.heap.size]?=_;rw[Array.getElem?_push,Array.getElem?_push,Array.getElem?_push,Array.getElem?_push];simp only[Array.size_push];rw[if_neg f6J,if_neg f6J,if_neg f6J,if_pos trivial]
 ·show((((w.heap.push _).push _).push _).push _)[w.heap.size+3]?=_;rw[Array.getElem?_push,Array.getElem?_push,Array.getElem?_push,Array.getElem?_push];simp only[Array.size_push];rw[if_pos trivial]
 ·show((((w.heap.push _).push _).push _).push _)[w.heap.size+1]?=_;rw[Array.getElem?_push,Array.getElem?_push,Array.getElem?_push,Array.getElem?_push];exact m7X
 ·show((((w.heap.push _).push _).push _).push _)[w.heap.size+2]?=_;rw[Array.getElem?_push,Array.getElem?_push,Array.getElem?_push,Array.getElem?_push];exact v6h
open Go.RowKit Go.MapKept Go.WideMaps
open Go.ChangeMaps (setBlock)
structure Cbx(W:World)(g x m1 m2 b off:Nat)(lo p q:Int)(vt:Value):Prop where
 lo:W.cell? ⟨g,1,none⟩=some (.int .i64 lo)
 lst:W.cell? ⟨g,4,none⟩=some vt
 x0:W.cell? ⟨x,0,none⟩=some (.map (some m1))
 x1:W.cell? ⟨x,1,none⟩=some (.map (some m2))
 a:W.cell? ⟨b,off,none⟩=some (.int .i32 p)
 b:W.cell? ⟨b,off+1,none⟩=some (.int .i32 q)
theorem Cbx.block{W g x m1 m2 b off r lo p q vt}(h:Cbx W g x m1 m2 b off lo p q vt){A:Array MapEntry}{cl} o(hr:W.heap[r]?=some (.map A cl)):Cbx (setBlock W r o) g x m1 m2 b off lo p q vt:=by
 have k:∀S j v,W.cell? ⟨S,j,none⟩=some v->(setBlock W r o).cell? ⟨S,j,none⟩=some v:=fun S j v I=>M2c
 exact⟨k _ _ _ h.lo,k _ _ _ h.lst,k _ _ _ h.x0,k _ _ _ h.x1,k _ _ _ h.a,k _ _ _ h.b⟩
theorem Cbx.drew{W g x m1 m2 b off lo p q vt}(h:Cbx W g x m1 m2 b off lo p q vt):Cbx W.drew g x m1 m2 b off lo p q vt:=⟨h.lo,h.lst,h.x0,h.x1,h.a,h.b⟩
theorem y1y t W:(Instr.makeMap t none).run prog W=.ok (.map (some W.heap.size)) (W.alloc (.map #[] 0)):=by
 simp[Instr.makeMap,Result.andThen]
theorem z3z w:(zeroValue 21).run prog w=.ok (.int .i32 0) w:=by
 obtain⟨i,Z,D,_,_⟩:=info_parts Tryz.info21;exact s4o
theorem Tryz.info93:(prog.info? 3).map (fun i=>(i.zero,i.size,i.bytes))=some (some (.int .i64 0),1,8):=f4x
theorem z3A w:(zeroValue 3).run prog w=.ok (.int .i64 0) w:=by
 obtain⟨i,Z,D,_,_⟩:=info_parts Tryz.info93;exact s4o
theorem z3e l b:(secC l (.int .i32 b)).getD (.int .i64 0)=.int .i64 (Cn.secOf l b:Nat):=by
 show(if Cn.secOf l b=0 then none else some (Value.int .i64 (Cn.secOf l b:Nat))).getD _=_;by_cases h:Cn.secOf l b=0
 ·rw[if_pos h,h];rfl
 ·rw[if_neg h];rfl
theorem x4e v rs w(hv:Rcs w v rs)(aM:∀r∈rs,r.kind=7->r.to.length=2/\0<=r.lo/\r.lo<=1114111)(hl:rs.length<=4096):Calls prog 88 #[v] w (CmpB w rs):=by
 obtain⟨W1,W2,W3,W4,aX,aY,aZ,ba,bj,bm,bD,aG⟩:=z4Z w;have bt:=hv.1;obtain⟨ao,aU,az,_,_⟩:=hv.shape
 have p:Hid (∀k W,k<rs.length->Bw w W->∃b P,v=.slice (some ⟨b,P,none⟩) rs.length aU/\RecAt W b (P+k*8) (rs.getD k Cn.none)/\RecFit (rs.getD k Cn.none)):=fun k W G hW=>by
  obtain⟨b,P,bp,he,_,_,hc⟩:=(hv.below hW).place f6J;rw[az]at he;obtain⟨e1,e2,e3⟩:=Value.slice.inj he;refine⟨b,P,?_,hc k G,(hv.below hW).fit G⟩;rw[az,e1]
 have T:Hid (∀k,k<rs.length->rs.take (k+1)=rs.take k++[rs.getD k Cn.none]/\rs.getD k Cn.none∈rs):=fun k G=>by
  refine⟨?_,?_⟩
  ·rw[List.take_add_one];simp[List.getD,G]
  ·simp[List.getD,G]
 have D:=O aM;have aB:=O aG;clear hv aM aG;subst az;have bh:=y1y;go_enter func88,ntmps88;go_wp2;clear bh;go_loopw[5,11] (fun _ iv wr=>∃k:Nat,iv=.int .i64 k/\k<=rs.length/\Cst w wr (rs.take k) (rs.take k)) (fun _ iv _=>rs.length-(intOf iv).toNat)
 case atStart=>exact⟨0,rfl,f6J,V aB⟩
 case round =>
  obtain⟨k,rfl,G,y⟩:=hrel;clear aB aX aY aZ ba bj bm;by_cases aL:k<rs.length
  ·obtain⟨b,P,he,hA,l⟩:=V p k wr aL y.bel;obtain⟨q1,_,_⟩:=Value.slice.inj he;clear he;subst q1;obtain⟨aF,am⟩:=V T k aL;have i:=V D _ am;obtain⟨x0,x1,x2,x3,⟨va,x4,Z⟩,x5,x6,x7⟩:=hA;obtain⟨aQ,L,rfl,_,_⟩:=Z.shape;clear p T D am;generalize rs.getD k Cn.none=r at *;obtain⟨F,aI⟩:∃F,wr.alloc (.cells #[.int .i64 r.kind,.int .i64 r.lo,.int .i64 r.hi,.int .i64 r.n,.slice aQ r.to.length L,.string r.name,.string r.other,.float .f64 r.wt] 67)=F:=⟨_,rfl⟩;have I:Bw wr F:=by rw[<- aI];exact(b0r).alloc (l0r _) _
   have E:F.heap[wr.heap.size]?=some (.cells #[.int .i64 r.kind,.int .i64 r.lo,.int .i64 r.hi,.int .i64 r.n,.slice aQ r.to.length L,.string r.name,.string r.other,.float .f64 r.wt] 67 (0,0)):=by
    rw[<- aI];exact s6Q
   have aH:=y.below I;have bC:∀W a m,(store a (.float .f64 r.wt) m).run prog W=stored prog W a (.float .f64 r.wt) m:=fun W a m=>run_store prog W a _ m rfl;obtain⟨z0,z1,z2,z3,z4,z5,z6,z7⟩:=x4J E;have Q:=O aH;have c:=O (Z.below I);have bB:=l.lo;clear y aH Z I E l;by_cases h7:r.kind=7
   ·obtain⟨t2,l0,l1⟩:=i h7;have aO:Rune (r.to.getD 0 0):=x1c (V c) f6J;have aP:Rune (r.to.getD 1 0):=x1c (V c) f6J
    have af:Hid (x3B (rs.take k++[r]) (pk2 (r.to.getD 0 0) (r.to.getD 1 0))=some (.int .i32 r.lo)):=by
     show x3B (rs.take k++[r]) (pk2 (r.to.getD 0 0) (r.to.getD 1 0))=_;have hp:Cn.isP (r.to.getD 0 0) (r.to.getD 1 0) r=true:=d0t ⟨h7,rfl,rfl⟩;rw[y4h,Cn.x6V,if_pos hp];rfl
    have J:Hid (∀x,x≠pk2 (r.to.getD 0 0) (r.to.getD 1 0)->x3B (rs.take k++[r]) x=x3B (rs.take k) x):=fun x hx=>x6U fun a b e q=>hx (by rw[e,<- q.2.1,<- q.2.2])
    have ag:Hid (secC (rs.take k++[r]) (.int .i32 (r.to.getD 1 0))=some (.int .i64 ((Cn.secOf (rs.take k) (r.to.getD 1 0):Nat)+1))):=by
     show(if Cn.secOf (rs.take k++[r]) (r.to.getD 1 0)=0 then none else some (Value.int .i64 (Cn.secOf (rs.take k++[r]) (r.to.getD 1 0):Nat)))=_
     have hs:Cn.secOf (rs.take k++[r]) (r.to.getD 1 0)=Cn.secOf (rs.take k) (r.to.getD 1 0)+1:=by
      rw[Cn.x8w,if_pos (And.intro h7 rfl)]
     rw[hs,if_neg f6J];rfl
    have ai:Hid (∀x,x≠Value.int .i32 (r.to.getD 1 0)->secC (rs.take k++[r]) x=secC (rs.take k) x):=fun x hx=>x8v fun b e q=>hx (by rw[e,<- q.2]);have aq:=Cn.z3g (rs.take k) (r.to.getD 1 0);have bu:Cn.secOf (rs.take k) (r.to.getD 1 0)<=4096:=(by rw[List.length_take]at aq;exact f6J);obtain⟨U,A,pc,aN,_,_,ay⟩:=(V c).place f6J;have ya:=ay 0 f6J;have yb:=ay 1 f6J;rw[Nat.add_zero]at ya;obtain⟨e1,_,e3⟩:=Value.slice.inj aN;subst e1;subst e3;have hX:=(V Q).hx;have ar:Hid (Cbx F wr.heap.size (w.heap.size+3) (w.heap.size+1) (w.heap.size+2) U A r.lo (r.to.getD 0 0) (r.to.getD 1 0) (.slice (some ⟨U,A,none⟩) r.to.length L)):=⟨z1,z4,cell_of (j:=0) hX n5Z,cell_of (j:=1) hX w2h,ya,yb⟩;obtain⟨es,cl,hu,aK⟩:=x8V (w:=F.drew) (M:=146) klP underlying146 (r:=w.heap.size+1) (V Q).mp ⟨_,_,rfl,aO,aP⟩ (V af) (V J);have u:Hid (Cst w (setBlock F.drew (w.heap.size+1) (.map es cl)) (rs.take k++[r]) (rs.take k)):=((V Q).below (x0k ⟨1,rfl⟩)).pair aK
    have ae:Hid (Cbx (setBlock F.drew (w.heap.size+1) (.map es cl)) wr.heap.size (w.heap.size+3) (w.heap.size+1) (w.heap.size+2) U A r.lo (r.to.getD 0 0) (r.to.getD 1 0) (.slice (some ⟨U,A,none⟩) r.to.length L)):=by
     obtain⟨aW,aV,g,_⟩:=(V Q).mp;exact(V ar).drew.block _ g
    have bw:IntKind.i32.wrap r.lo=r.lo:=(by rw[IntKind.wrap_i32];exact f6J);have bE:((Cn.secOf (rs.take k) (r.to.getD 1 0):Nat):Int)+1<=5000:=f6J;unfold pk2 at hu;clear aK af J ay aN ya yb hX c i aq aO aP;rw[t2]at *;generalize r.to.getD 0 0=pa,r.to.getD 1 0=t at *;generalize hsn:Cn.secOf (rs.take k) t=sn at *;have aT:=O hsn;clear hsn;generalize hkd:r.kind=kd at *;have be:(kd==7)=true:=(by rw[beq_iff_eq];exact h7);clear hkd h7;go_wp2;clear x0 x1 x2 x3 x4 x5 x6 x7 z0 z1 z2 z3 z4 z5 z6 z7;refine wp_region_held_drew (S:=fun w'=>Cbx w' wr.heap.size (w.heap.size+3) (w.heap.size+1) (w.heap.size+2) U A r.lo pa t (.slice (some ⟨U,A,none⟩) 2 L)) f4y (V ar).drew (fun hHeld=>?_);refine tk9 0 (.pointer (some ⟨w.heap.size+3,0,none⟩)) ?_ (hy:=n4i);refine tk9 1 (.map (some (w.heap.size+1))) ?_ (hy:=n4i);refine tk9 2 (.pointer (some ⟨wr.heap.size,4,none⟩)) ?_ (hy:=n4i);refine tk9 3 (.slice (some ⟨U,A,none⟩) 2 L) ?_ (hy:=n4i);refine tk9 4 (.pointer (some ⟨U,A,none⟩)) ?_ (hy:=n4i);refine tk9 5 (.int .i32 pa) ?_ (hy:=n4i);refine tk9 6 (.pointer (some ⟨wr.heap.size,4,none⟩)) ?_ (hy:=n4i);refine tk9 7 (.slice (some ⟨U,A,none⟩) 2 L) ?_ (hy:=n4i);refine tk9 8 (.pointer (some ⟨U,A+1,none⟩)) ?_ (hy:=n4i);refine tk9 9 (.int .i32 t) ?_ (hy:=n4i);refine tk9 10 (.agg #[.int .i32 pa,.int .i32 t]) ?_ (hy:=n4i);refine tk9 11 (.pointer (some ⟨wr.heap.size,1,none⟩)) ?_ (hy:=n4i);refine tk9 12 (.int .i64 r.lo) ?_ (hy:=n4i);refine tk9 13 (.int .i32 r.lo) ?_ (hy:=n4i);refine rd9 14 fun K hK=>?_;go_simp;refine hK.out _ _ ?_ (fun hHeld=>?_)
    ·exact V ae
    clear hK K;refine wpAnyH_done f4y ?_ _;clear hHeld hu ar Q;generalize setBlock F.drew (w.heap.size+1) (.map es cl)=d at *;have aD:=(z3L (w:=d.drew) (M:=147) (z:=.int .i64 0) klR underlying147 z3A (r:=w.heap.size+2) (V u).ms ⟨t,rfl⟩).2;rw[z3e,V aT]at aD;obtain⟨X,aw,bn,aj⟩:=x8V (w:=d.drew) (M:=147) klR underlying147 (r:=w.heap.size+2) (V u).ms ⟨t,rfl⟩ (V ag) (V ai);have aS:Hid (Cst w (setBlock d.drew (w.heap.size+2) (.map X aw)) (rs.take k++[r]) (rs.take k++[r])):=((V u).below (x0k ⟨1,rfl⟩)).second aj
    have aA:Hid (Cbx (setBlock d.drew (w.heap.size+2) (.map X aw)) wr.heap.size (w.heap.size+3) (w.heap.size+1) (w.heap.size+2) U A r.lo pa t (.slice (some ⟨U,A,none⟩) 2 L)):=by
     obtain⟨aW,aV,g,_⟩:=(V u).ms;exact(V ae).drew.block _ g
    have ab:Hid (Cbx d.drew wr.heap.size (w.heap.size+3) (w.heap.size+1) (w.heap.size+2) U A r.lo pa t (.slice (some ⟨U,A,none⟩) 2 L)):=(V ae).drew;have bA:IntKind.i64.wrap ((sn:Int)+1)=(sn:Int)+1:=(by rw[IntKind.wrap_i64];exact f6J);clear aj ag ai u ae;go_wp2;refine wp_region_held_drew (S:=fun w'=>Cbx w' wr.heap.size (w.heap.size+3) (w.heap.size+1) (w.heap.size+2) U A r.lo pa t (.slice (some ⟨U,A,none⟩) 2 L)) f4y (V ab) (fun hHeld=>?_);refine tk9 0 (.pointer (some ⟨w.heap.size+3,1,none⟩)) ?_ (hy:=n4i);refine tk9 1 (.map (some (w.heap.size+2))) ?_ (hy:=n4i);refine tk9 2 (.pointer (some ⟨wr.heap.size,4,none⟩)) ?_ (hy:=n4i);refine tk9 3 (.slice (some ⟨U,A,none⟩) 2 L) ?_ (hy:=n4i);refine tk9 4 (.pointer (some ⟨U,A+1,none⟩)) ?_ (hy:=n4i);refine tk9 5 (.int .i32 t) ?_ (hy:=n4i);refine rd9 6 fun K hK=>?_;go_simp;refine hK.out _ _ ?_ (fun hHeld=>?_)
    ·exact V ab
    clear hK K
    try simp only[Act.put,sa9,sb9,sc9]
    refine tk9 7 (.int .i64 ((sn:Int)+1)) ?_;refine rd9 8 fun K hK=>?_;go_simp;refine hK.out _ _ ?_ (fun hHeld=>?_)
    ·exact V aA
    clear hK K;refine wpAnyH_done f4y ?_ _;clear hHeld bn aD ab aA;generalize setBlock d.drew (w.heap.size+2) (.map X aw)=W7 at *;go_wp2
    go_roundw
    case rel=>exact⟨k+1,g2D,f6J,by rw[aF];exact V aS⟩
    case measure=>exact g7V
   ·have be:(r.kind==7)=false:=b0f h7
    have aR:Hid (Cst w F (rs.take k++[r]) (rs.take k++[r])):=by
     have hp:x3B (rs.take k++[r])=x3B (rs.take k):=funext fun v=>x6U fun a b _ q=>h7 q.1;have hs:secC (rs.take k++[r])=secC (rs.take k):=funext fun v=>x8v fun b _ q=>h7 q.1;have h:=V Q;exact⟨h.bel,h.sz,h.res,h.hx,by rw[hp];exact h.mp,by rw[hs];exact h.ms⟩
    clear Q c i h7;generalize r.kind=kd at *;go_wp2
    go_roundw
    case rel=>exact⟨k+1,g2D,f6J,by rw[aF];exact V aR⟩
    case measure=>exact g7V
  ·obtain rfl:k=rs.length:=f6J;rw[List.take_of_length_le (l0r _)]at y;have hX:=y.hx;have y0:=cell_of (j:=0) hX n5Z;have y1:=cell_of (j:=1) hX w2h;have F1:=y.res;have z0:=cell_of (j:=0) F1 n5Z;have z1:=cell_of (j:=1) F1 w2h;have f0:=fun j=>x0e (j:=j) F1;obtain⟨F2,F3⟩:=y.fin;have f:=O F2;have aC:=O F3;clear p T D y hX F1 F2 F3;go_wp2;have Y:=V f;have aJ:=V aC;clear f aC y0 y1 f0 z0 z1;generalize(wr.setCell ⟨w.heap.size,0,none⟩ (.map (some (w.heap.size+1)))).setCell ⟨w.heap.size,1,none⟩ (.map (some (w.heap.size+2)))=bF at *;have z0:=cell_of (j:=0) Y n5Z;have z1:=cell_of (j:=1) Y w2h;refine bodyPost_ret (v:=.agg #[.map (some (w.heap.size+1)),.map (some (w.heap.size+2))]) (by simp[results,Tryz.results88,go_sem,z0,z1]) rfl aJ
open Go.RowKit Go.MapKept Go.WideMaps
open Go.ChangeMaps (setBlock)
open Go.Lib (minS maxS run_min_strs run_max_strs)
def MxAt(w:World)(r:Nat):Prop:=∃c,GAt KN w r c
theorem y9l{w r a b}(h:MxAt w r)(g:Sh a)(Y:Sh b) v:∃A cl,(Instr.mapUpdate 151 (.map (some r)) (pk a b) v).run prog w=.ok () (setBlock w r (.map A cl))/\∃c,GObj KN A cl c:=by
 obtain⟨c,h⟩:=h;have dec:∀x:Value,Decidable (x=pk a b):=fun x=>Classical.propDecidable _;obtain⟨A,cl,Z,D⟩:=x8V (M:=151) (c':=fun x=>@ite _ (x=pk a b) (dec x) (some v) (c x)) klN underlying151 h ⟨a,b,rfl,g,Y⟩ (if_pos rfl) (fun x J=>if_neg J);exact⟨A,cl,Z,_,D⟩
theorem x6p a b w:Calls prog 140 #[.string a,.string b] w fun e w'=>e=.returned (pk (minS a b) (maxS a b))/\Bw w w':=by
 have Z:=@run_min_strs prog;have D:=@run_max_strs prog;unfold pk;go_enter func140,ntmps140;go_wp2;go_returns;exact⟨rfl,(b0r).alloc (l0r _) _⟩
structure Mst(w wr:World):Prop where
 bel:Below w.heap.size w wr
 sz:w.heap.size+3<=wr.heap.size
 res:wr.heap[w.heap.size]?=some (.cells #[.map none] 153 (0,0))
 hx:wr.heap[w.heap.size+2]?=some (.cells #[.map (some (w.heap.size+1))] 153 (0,0))
 mp:MxAt wr (w.heap.size+1)
theorem Mst.below{w wr w'}(h:Mst w wr)(Y:Bw wr w'):Mst w w':=by
 have W:=h.sz;obtain⟨c,P,j,U,G⟩:=h.mp;exact⟨x0b h.bel Y,Nat.le_trans W Y.size,by rw[Y.block _ f6J];exact h.res,by rw[Y.block _ f6J];exact h.hx,c,P,j,by rw[Y.block _ f6J];exact U,G⟩
theorem Mst.more{w wr}(h:Mst w wr){A:Array MapEntry}{cl}(C:∃c,GObj KN A cl c):Mst w (setBlock wr (w.heap.size+1) (.map A cl)):=by
 have W:=h.sz;obtain⟨c,C⟩:=C;exact⟨x3N h.bel f6J _,P2k,n7Y,m4C,c,A,cl,x3X f6J,C⟩
def MxtB(w:World)(e:Ending)(w':World):Prop:=∃r,e=.returned (.agg #[.map (some r)])/\w.heap.size<=r/\MxAt w' r/\Below w.heap.size w w'
theorem Mst.fin{w wr}(h:Mst w wr):(wr.setCell ⟨w.heap.size,0,none⟩ (.map (some (w.heap.size+1)))).heap[w.heap.size]?=some (.cells #[.map (some (w.heap.size+1))] 153 (0,0))/\MxtB w (.returned (.agg #[.map (some (w.heap.size+1))])) (wr.setCell ⟨w.heap.size,0,none⟩ (.map (some (w.heap.size+1)))):=by
 obtain⟨c,P,j,U,G⟩:=h.mp;exact⟨by rw[x0f h.res];rfl,_,rfl,f6J,⟨c,P,j,by rw[x0g _ f6J];exact U,G⟩,x0d h.bel (l0r _) _⟩
theorem z6g w:∃W1 X x,w.alloc (.cells #[.map none] 153)=W1/\W1.alloc (.map #[] 0)=X/\X.alloc (.cells #[.map (some (w.heap.size+1))] 153)=x/\W1.heap.size=w.heap.size+1/\X.heap.size=w.heap.size+2/\Mst w x:=by
 refine⟨_,_,_,rfl,rfl,rfl,M7M,M7M,?_⟩;have Y:Bw w (((w.alloc (.cells #[.map none] 153)).alloc (.map #[] 0)).alloc (.cells #[.map (some (w.heap.size+1))] 153)):=(((b0r).alloc (l0r _) _).alloc M7M _).alloc P8P _;refine⟨Y,M7M,?_,?_,fun _=>none,#[],0,?_,y8u _ _ fun _=>rfl⟩
 ·show(((w.heap.push _).push _).push _)[w.heap.size]?=_;rw[Array.getElem?_push,Array.getElem?_push,Array.getElem?_push];exact m7X
 ·show(((w.heap.push _).push _).push _)[w.heap.size+2]?=_;rw[Array.getElem?_push,Array.getElem?_push,Array.getElem?_push];simp only[Array.size_push];rw[if_pos trivial]
 ·show(((w.heap.push _).push _).push _)[w.heap.size+1]?=_;rw[Array.getElem?_push,Array.getElem?_push,Array.getElem?_push];exact v6h
structure Mbx(W:World)(g x m1:Nat)(nm ot:ByteArray)(wt:Nat):Prop where
 name:W.cell? ⟨g,5,none⟩=some (.string nm)
 other:W.cell? ⟨g,6,none⟩=some (.string ot)
 wt:W.cell? ⟨g,7,none⟩=some (.float .f64 wt)
 x0:W.cell? ⟨x,0,none⟩=some (.map (some m1))
theorem Mbx.below{W W' g x m1 wt nm ot}(h:Mbx W g x m1 nm ot wt)(Y:Bw W W'):Mbx W' g x m1 nm ot wt :=
 ⟨u7C,M7T,t0A,w6u⟩
theorem Mbx.block{W g x m1 r wt nm ot}(h:Mbx W g x m1 nm ot wt){A:Array MapEntry}{cl} o(hr:W.heap[r]?=some (.map A cl)):Mbx (setBlock W r o) g x m1 nm ot wt:=by
 have k:∀S j v,W.cell? ⟨S,j,none⟩=some v->(setBlock W r o).cell? ⟨S,j,none⟩=some v:=fun S j v I=>M2c
 exact⟨k _ _ _ h.name,k _ _ _ h.other,k _ _ _ h.wt,k _ _ _ h.x0⟩
theorem x7J v rs w(hv:Rcs w v rs)(X:∀r∈rs,r.kind=15->Sh r.name/\Sh r.other):Calls prog 89 #[v] w (MxtB w):=by
 obtain⟨W1,W2,W3,aF,aG,l,T,aK,G⟩:=z6g w;have aM:=hv.1;obtain⟨ao,aD,ag,_,_⟩:=hv.shape
 have p:Hid (∀k W,k<rs.length->Bw w W->∃b P,v=.slice (some ⟨b,P,none⟩) rs.length aD/\RecAt W b (P+k*8) (rs.getD k Cn.none)):=fun k W hk hW=>by
  obtain⟨b,P,aL,d,_,_,hc⟩:=(hv.below hW).place f6J;rw[ag]at d;obtain⟨e1,e2,e3⟩:=Value.slice.inj d;refine⟨b,P,?_,hc k hk⟩;rw[ag,e1]
 have D:Hid (∀k,k<rs.length->(rs.getD k Cn.none).kind=15->Sh (rs.getD k Cn.none).name/\Sh (rs.getD k Cn.none).other):=fun k hk h=>X _ E9b h;have ai:=O G;have aJ:=y1y;clear hv X G;subst ag;go_enter func89,ntmps89;go_wp2;clear aJ;go_loopw[5,10] (fun _ iv wr=>∃k:Nat,iv=.int .i64 k/\k<=rs.length/\Mst w wr) (fun _ iv _=>rs.length-(intOf iv).toNat)
 case atStart=>exact⟨0,rfl,f6J,V ai⟩
 case round =>
  obtain⟨k,rfl,hk,y⟩:=hrel;clear ai aF aG l T aK;by_cases ay:k<rs.length
  ·obtain⟨b,P,d,hA⟩:=V p k wr ay y.bel;obtain⟨q1,_,_⟩:=Value.slice.inj d;clear d;subst q1;have af:=V D k ay;obtain⟨x0,x1,x2,x3,⟨va,x4,Z⟩,x5,x6,x7⟩:=hA;obtain⟨aB,L,rfl,_,_⟩:=Z.shape;clear p D Z;generalize rs.getD k Cn.none=r at *;obtain⟨F,aq⟩:∃F,wr.alloc (.cells #[.int .i64 r.kind,.int .i64 r.lo,.int .i64 r.hi,.int .i64 r.n,.slice aB r.to.length L,.string r.name,.string r.other,.float .f64 r.wt] 67)=F:=⟨_,rfl⟩;have ar:Bw wr F:=by rw[<- aq];exact(b0r).alloc (l0r _) _
   have E:F.heap[wr.heap.size]?=some (.cells #[.int .i64 r.kind,.int .i64 r.lo,.int .i64 r.hi,.int .i64 r.n,.slice aB r.to.length L,.string r.name,.string r.other,.float .f64 r.wt] 67 (0,0)):=by
    rw[<- aq];exact s6Q
   have C:=y.below ar;have aP:∀W a m,(store a (.float .f64 r.wt) m).run prog W=stored prog W a (.float .f64 r.wt) m:=fun W a m=>run_store prog W a _ m rfl;obtain⟨t,z1,z2,z3,z4,z5,z6,z7⟩:=x4J E;have Q:=O C;have Y:Hid (Mbx F wr.heap.size (w.heap.size+2) (w.heap.size+1) r.name r.other r.wt):=⟨z5,z6,z7,cell_of (j:=0) C.hx w8r⟩;clear y C ar E;by_cases h7:r.kind=15
   ·obtain⟨sa,sb⟩:=af h7;have M:=z4h sa sb;have KE:Hid (∀W,Calls prog 140 #[.string r.name,.string r.other] W fun e w'=>e=.returned (pk (minS r.name r.other) (maxS r.name r.other))/\Bw W w'):=fun W=>x6p _ _ W;have am:Hid (∀W,Calls prog 139 #[.float .f64 r.wt] W fun e w'=>∃u n,e=.returned (.float .f64 u)/\w'=W.drewN n):=fun W=>y2z r.wt W;have B:Hid (∀W u,MxAt W (w.heap.size+1)->∃A z,(Instr.mapUpdate 151 (.map (some (w.heap.size+1))) (pk (minS r.name r.other) (maxS r.name r.other)) (.float .f64 u)).run prog W=.ok () (setBlock W (w.heap.size+1) (.map A z))/\∃c,GObj KN A z c):=fun W u h=>y9l h M.1 M.2 _;unfold pk at KE B;have U:Hid (Mbx F.drew wr.heap.size (w.heap.size+2) (w.heap.size+1) r.name r.other r.wt):=(V Y).below (x0k ⟨1,rfl⟩);have g:Hid (Mst w F.drew):=(V Q).below (x0k ⟨1,rfl⟩);generalize minS r.name r.other=k1,maxS r.name r.other=k2,hkd:r.kind=kd at *;have aH:(kd==15)=true:=(by rw[beq_iff_eq];exact h7);clear hkd h7 af sa sb M Y Q;go_wp2;clear x0 x1 x2 x3 x4 x5 x6 x7 t z1 z2 z3 z4 z5 z6 z7;refine wp_region_held_drew (S:=fun w'=>Mbx w' wr.heap.size (w.heap.size+2) (w.heap.size+1) r.name r.other r.wt) f4y (V U) (fun hHeld=>?_);refine tk9 0 (.pointer (some ⟨w.heap.size+2,0,none⟩)) ?_ (hy:=g4E);refine tk9 1 (.map (some (w.heap.size+1))) ?_ (hy:=g4E);refine tk9 2 (.pointer (some ⟨wr.heap.size,5,none⟩)) ?_ (hy:=g4E);refine tk9 3 (.string r.name) ?_ (hy:=g4E);refine tk9 4 (.pointer (some ⟨wr.heap.size,6,none⟩)) ?_ (hy:=g4E);refine tk9 5 (.string r.other) ?_ (hy:=g4E);refine tk9 7 (.pointer (some ⟨wr.heap.size,7,none⟩)) ?_ (hy:=g4E);refine tk9 8 (.float .f64 r.wt) ?_ (hy:=g4E);refine rd9 6 fun K hK=>?_;go_simp;refine c1m (V KE _) fun w2 ae=>?_;have i:Hid (Mbx w2 wr.heap.size (w.heap.size+2) (w.heap.size+1) r.name r.other r.wt):=(V U).below ae;have aj:Hid (Mst w w2):=(V g).below ae;clear ae;refine hK.out _ _ ?_ (fun hHeld=>?_)
    ·exact V i
    clear hK K
    try simp only[Act.put,sa9,sb9,sc9]
    refine rd9 9 fun K hK=>?_;go_simp;refine(V am _).mono ?_;rintro e3 x ⟨u3,n3,rfl,aA⟩;have s:Bw w2 x:=(by rw[aA];exact x0k ⟨n3,rfl⟩);clear aA;have J:Hid (Mbx x wr.heap.size (w.heap.size+2) (w.heap.size+1) r.name r.other r.wt):=(V i).below s;have ab:Hid (Mst w x):=(V aj).below s;obtain⟨A,z,hu,aw⟩:=V B x u3 (V ab).mp;have aC:=O ((V ab).more aw)
    have R:Hid (Mbx (setBlock x (w.heap.size+1) (.map A z)) wr.heap.size (w.heap.size+2) (w.heap.size+1) r.name r.other r.wt):=by
     obtain⟨_,aO,aN,aI,_⟩:=(V ab).mp;exact(V J).block _ aI
    clear s aw;refine hK.out _ _ ?_ (fun hHeld=>?_)
    ·exact V J
    clear hK K
    try simp only[Act.put,sa9,sb9,sc9]
    refine rd9 10 fun K hK=>?_;go_simp;refine hK.out _ _ ?_ (fun hHeld=>?_)
    ·exact V R
    clear hK K;refine wpAnyH_done f4y ?_ _;clear hHeld hu U i J R g aj ab KE am B;generalize setBlock x (w.heap.size+1) (.map A z)=W5 at *;go_wp2
    go_roundw
    case rel=>exact⟨k+1,g2A,f6J,V aC⟩
    case measure=>exact g7V
   ·have aH:(r.kind==15)=false:=b0f h7;clear Y af h7;generalize r.kind=kd at *;go_wp2
    go_roundw
    case rel=>exact⟨k+1,g2A,f6J,V Q⟩
    case measure=>exact g7V
  ·obtain rfl:k=rs.length:=f6J;have hX:=y.hx;have y0:=cell_of (j:=0) hX w8r;have F1:=y.res;have t:=cell_of (j:=0) F1 w8r;have f0:=fun j=>x0e (j:=j) F1;obtain⟨F2,F3⟩:=y.fin;have f:=O F2;have I:=O F3;clear p D y hX F1 F2 F3;go_wp2;have az:=V f;have q:=V I;clear f I y0 f0 t;generalize wr.setCell ⟨w.heap.size,0,none⟩ (.map (some (w.heap.size+1)))=aQ at *;have t:=cell_of (j:=0) az w8r;refine bodyPost_ret (v:=.agg #[.map (some (w.heap.size+1))]) (by simp[results,Tryz.results89,go_sem,t]) rfl q
