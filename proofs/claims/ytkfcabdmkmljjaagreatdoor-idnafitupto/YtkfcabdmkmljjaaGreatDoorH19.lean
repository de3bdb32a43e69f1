/- Lemmas. -/
import Derived.Test.YtkfcabdmkmljjaaGreatDoorH13
import Derived.Deep.RegionHeld
import Derived.Deep.AppendLies
import Derived.Test.YtkfcabdmkmljjaaGreatDoorH20
set_option maxHeartbeats 8000000
set_option maxRecDepth 8000
namespace Go.Proofs.YtkfcabdmkmljjaaGreatDoor
open Go.Proofs.Tryz
open Go.RowKit
open Ti
section
variable{p:Prop}
theorem f3z(h:p:=by
 have t:S≠r:=fun e=>by
  subst e;simp only[World.cell?,hr]at I;cases I
 rw[World.cell?_of_block (x0q t)];exact I):p:=h
theorem s4o(h:p:=by simp[zeroValue,typeInfo,run_program,Result.andThen,Z,D]):p:=h
theorem n7Y(h:p:=by rw[x0q f6J];exact h.res):p:=h
theorem W5a(h:p:=by(intro w hSw;obtain⟨f,U,s2,C,N,c⟩:=hSw;go_simp)):p:=h
theorem m4C(h:p:=by rw[x0q f6J];exact h.hx):p:=h
theorem E8c(h:p:=by have:=h.sz;exact f6J):p:=h
theorem e4I(h:p:=by rw[World.size_alloc];exact f6J):p:=h
theorem E3k(h:p:=by rw[World.size_alloc,World.size_alloc];exact f6J):p:=h
theorem m7X(h:p:=by simp only[Array.size_push];rw[if_neg f6J,if_neg f6J,if_pos trivial]):p:=h
theorem F9B(h:p:=by rw[List.length_append,Ti.x2f];exact hr):p:=h
theorem e1T(h:p:=by rw[x1G];exact F):p:=h
theorem N5W(h:p:=by(intro w hSw;obtain⟨f,U,s2,C⟩:=hSw;go_simp)):p:=h
theorem n5Z(h:p:=by show 0<2;exact f6J):p:=h
theorem u7D(h:p:=by rw[List.length_append];exact f6J):p:=h
theorem T8Q(h:p:=by(intro w hSw;obtain⟨s0,s1,s2,s3,s4,s5,s6,s7⟩:=hSw;go_simp)):p:=h
theorem v6h(h:p:=by simp only[Array.size_push];rw[if_neg f6J,if_pos trivial]):p:=h
theorem w8q(h:p:=by show 0<1;exact f6J):p:=h
theorem w2h(h:p:=by show 1<2;exact f6J):p:=h
end
namespace Cn
theorem x2S{g:Nat->Rec->Int}:∀(l:List Rec) (i:Nat) (r:Rec),rangesA g i (l++[r])=rangesA g i l++spoken r (g (i+l.length) r)
 | [],i,r=>by simp[rangesA]
 | x::l,i,r=>by
  rw[List.cons_append,rangesA,x2S l (i+1) r,rangesA,List.append_assoc,List.length_cons,(f6J:i+1+l.length=i+(l.length+1))]
theorem x5i{r:Rec}(h:right r=0)(G:r.kind≠15)(v:Int):(spoken r v).length<=1114112:=by
 obtain⟨U,B,C⟩:=x0p h G;unfold spoken;split
 ·simp
 ·rw[x5Z]
  rename_i hc
  have A:=right_step h;have H:r.kind=4:=Decidable.byContradiction fun e=>hc (.inl e);unfold step at A;rw[if_pos H]at A;have:(r.hi-r.lo) / r.n<=r.hi-r.lo:=Int.ediv_le_self _ f6J;omega
theorem x3H{g:Nat->Rec->Int}:∀(l:List Rec) (i:Nat),(∀r∈l,right r=0/\r.kind≠15)->(rangesA g i l).length<=1114112*l.length
 | [],_,_=>by simp[rangesA]
 | r::l,i,h=>by
  rw[rangesA,List.length_append,List.length_cons];have Z:=x5i (h r M7K).1 (h r M7K).2 (g i r);have D:=x3H (g:=g) l (i+1) (fun x A=>h x (List.mem_cons_of_mem _ A));omega
end Cn
theorem y1O(r:Rec)(v:Int)(h:Cn.right r=0)(G:r.kind≠15):0<(Cn.spoken r v).length:=by
 unfold Cn.spoken;split
 ·simp
 ·rw[Cn.x5Z]
  rename_i hc
  obtain⟨U,B,C⟩:=Cn.x0p h G;have A:=Cn.right_step h;have H:r.kind=4:=Decidable.byContradiction fun e=>hc (.inl e);unfold Cn.step at A;rw[if_pos H]at A;have:=Int.ediv_nonneg (a:=r.hi-r.lo) (b:=r.n) f6J f6J;omega
theorem z3P{X w2 w4:World}{P N:Value}{xs ys:List Tri.Rg}(m:Bw X w2)(A:Or4 w2 X.heap.size P xs)(hy:FitR ys)(S:xs.length+ys.length<=5000000000)(hr:w4.ownsRow X.heap.size 272 3 N (xs.length+ys.length) (Ti.rcells xs++Ti.rcells ys))(C:w2.grownBy w4 P.ownBlock):Or4 w4 X.heap.size N (xs++ys)/\Bw X w4 :=
 ⟨⟨fun r h=>by
  rcases List.mem_append.1 h with h | h
  ·exact A.1 r h
  ·exact hy r h,u7B,F9B⟩,m.grown C m.size (fun g U=>(A.2.2.lt g U).1)⟩
theorem z0m{w:World}{B:Nat}{v:Value}{ys:List Tri.Rg}(h:Or4 w B v ys)(F:0<ys.length):∃g cap,v=.slice (some ⟨g,0,none⟩) ys.length cap/\∀j u,(Ti.rcells ys)[j]?=some u->w.cell? ((⟨g,0,none⟩:Addr).add j)=some u:=by
 rcases h.2.2.2 with⟨_,R⟩ | ⟨g,cap,Q,rfl,_⟩
 ·omega
 ·exact⟨g,cap,rfl,fun j u X=>h.2.2.cells (g:=g) rfl j u X⟩
theorem z5X{w w':World}{b:Nat}{F lo hi n:Int}{vt:Value}{y M:ByteArray}{wt:Nat}(h:BoxAt w b F lo hi n vt y M wt)(Y:w'.heap[b]?=w.heap[b]?):BoxAt w' b F lo hi n vt y M wt:=by
 have e:∀j,w'.cell? ⟨b,j,none⟩=w.cell? ⟨b,j,none⟩:=fun j=>World.cell?_of_block Y;exact⟨by rw[e];exact h.1,by rw[e];exact h.2,by rw[e];exact h.3,by rw[e];exact h.4,by rw[e];exact h.5,by rw[e];exact h.6,by rw[e];exact h.7,by rw[e];exact h.8⟩
theorem y1U(v:Value)(rs:List Rec)(X:Int)(w:World)(hg:Glob w)(hv:Rcs w v rs)(hk:I64 X)(aN:∀r∈Cn.famOf (Cn.fam X) rs,Cn.right r=0/\r.kind≠15/\Fi (Cn.value r))(hl:(Cn.famOf (Cn.fam X) rs).length<=4096)(z:∀m:List Tri.Rg,m.Perm (Cn.rangesA (fun _ r=>Cn.value r) 1 (Cn.famOf (Cn.fam X) rs))->(m.Pairwise fun x y=>Tri.lo x<=Tri.lo y)->Tri.Val 0 m):Calls prog 94 #[v,.int .i64 X] w (x6q w (Cn.rangesA (fun _ r=>Cn.value r) 1 (Cn.famOf (Cn.fam X) rs))):=by
 obtain⟨i0,aR,aW,aX,aY⟩:=info_parts Tryz.info272;have i:=O (x5w v rs X w hg hv hk);unfold FamB at i;obtain⟨ao,M,aV,_,_⟩:=hv.shape;generalize Cn.famOf (Cn.fam X) rs=N at *;have Q:=O aN;have E:=O z;clear hv hg aN z;subst aV;go_enter func94,ntmps94;go_wp2_with fail;refine(V i).mono ?_;rintro e1 w1 ⟨v1,ps,rfl,aC,hR,F⟩;have aS:ps.length=N.length:=(by rw[<- aC,List.length_map]);have H:Rcs w1 v1 N:=by rw[<- aC];exact hR.rsx.rcs F f6J
 have ag:Hid (∀k,(Cn.rangesA (fun _ r=>Cn.value r) 1 (N.take k)).length<=4563402752):=fun k=>by
  have h1:=Cn.x3H (g:=fun _ r=>Cn.value r) (N.take k) 1 (fun r hr=>⟨(V Q r (List.mem_of_mem_take hr)).1,(V Q r (List.mem_of_mem_take hr)).2.1⟩);have h2:(N.take k).length<=N.length:=List.length_take_le' _ _;omega
 have D:Hid (∀k,k<N.length->∃b P M,v1=.slice (some ⟨b,P,none⟩) N.length M/\RecAt w1 b (P+k*8) (N.getD k Cn.none)/\RecFit (N.getD k Cn.none)):=fun k hk=>by
  obtain⟨b,P,M,q,_,_,hc⟩:=H.place f6J;exact⟨b,P,M,q,hc k hk,H.fit hk⟩
 have az:Hid (∀k,k<N.length->Cn.rangesA (fun _ r=>Cn.value r) 1 (N.take (k+1))=Cn.rangesA (fun _ r=>Cn.value r) 1 (N.take k)++Cn.spoken (N.getD k Cn.none) (Cn.value (N.getD k Cn.none))):=fun k hk=>by
  have e:N.take (k+1)=N.take k++[N.getD k Cn.none]:=by
   rw[List.take_add_one];exact E8Q
  rw[e,Cn.x2S]
 have t:Hid (∀e w',x6q w1 (Cn.rangesA (fun _ r=>Cn.value r) 1 N) e w'->x6q w (Cn.rangesA (fun _ r=>Cn.value r) 1 N) e w'):=fun e w' h=>by
  obtain⟨a,m,h1,h2,h3,h4,h5⟩:=h;exact⟨a,m,h1,h2,h3,h4.lower F.size,bthen F h5⟩
 obtain⟨bj,ba,aP,_,_⟩:=H.shape;subst aP;clear i aC hR H aS F;go_wp2;go_loopw[5,7,12] (fun rv _ iv wr=>∃k:Nat,iv=.int .i64 k/\k<=N.length/\Or4 wr w1.heap.size rv (Cn.rangesA (fun _ r=>Cn.value r) 1 (N.take k))/\Bw w1 wr) (fun _ _ iv _=>N.length-(intOf iv).toNat)
 case atStart=>exact⟨0,rfl,f6J,Or4.nil _ _,b0r⟩
 case round =>
  obtain⟨k,rfl,hk,ab,T⟩:=hrel;by_cases aB:k<N.length
  ·obtain⟨b,P,aZ,q,hA,s⟩:=V D k aB;obtain⟨e1,e2,e3⟩:=Value.slice.inj q;clear e2 e3 q;subst e1;obtain⟨ai,C,aO⟩:=V Q (N.getD k Cn.none) (by simp[List.getD,aB]);have aF:=O (V az k aB);have bp:=V ag k;obtain⟨y0,y1,y2,y3,⟨va,y4,aj⟩,y5,y6,y7⟩:=hA;obtain⟨A,J,rfl,_,_⟩:=aj.shape;have hold:∀j u,w1.cell? ⟨b,P+k*8+j,none⟩=some u->wr.cell? ⟨b,P+k*8+j,none⟩=some u:=fun j u h=>I3R;have x0:wr.cell? ⟨b,P+k*8,none⟩=_:=hold 0 _ y0;have x1:=hold 1 _ y1;have x2:=hold 2 _ y2;have x3:=hold 3 _ y3;have x4:=hold 4 _ y4;have x5:=hold 5 _ y5;have x6:=hold 6 _ y6;have x7:=hold 7 _ y7;clear hold y0 y1 y2 y3 y4 y5 y6 y7 D az E t;generalize N.getD k Cn.none=r at *;have aQ:∀W a m,(store a (.float .f64 r.wt) m).run prog W=stored prog W a (.float .f64 r.wt) m:=fun W a m=>run_store prog W a _ m rfl;obtain⟨d,bm,Y,I⟩:=x0J wr r.kind r.lo r.hi r.n (.slice A r.to.length J) r.name r.other r.wt;have l:=O (bthen T I);have U:Hid (∀W,Bw d W->BoxAt W wr.heap.size r.kind r.lo r.hi r.n (.slice A r.to.length J) r.name r.other r.wt):=fun W h=>Y.keep h;have aG:Hid (∀W,Bw d W->Or4 W w1.heap.size u5 (Cn.rangesA (fun _ r=>Cn.value r) 1 (N.take k))/\Bw w1 W):=fun W h=>⟨(ab.below I).below h,bthen (V l) h⟩;have KV:Hid (∀W,Bw d W->Calls prog 146 #[recV r (.slice A r.to.length J)] W (IntB W (Cn.value r))):=fun W h=>y7c r _ W s (aj.below (bthen (V l) h));have KS:Hid (∀W,Bw d W->Calls prog 145 #[recV r (.slice A r.to.length J),.int .i64 (Cn.value r)] W (y7q W (Cn.spoken r (Cn.value r)))):=fun W h=>x7D r _ _ W s (aj.below (bthen (V l) h)) ai C aO;have aU:=y1O r (Cn.value r) ai C;have bn:=Cn.x5i ai C (Cn.value r);unfold recV at KV KS;obtain⟨z0,z1,z2,z3,z4,z5,z6,z7⟩:=Y;have aD:Hid (u5.ownBlock≠some wr.heap.size):=fun e=>(by have:=(ab.2.2.lt _ e).2;exact f6J);have aH:Hid (wr.heap.size<d.heap.size):=x0a z0;clear ab T I s aj ai C aO Q ag;generalize Cn.spoken r (Cn.value r)=ys at *;generalize Cn.value r=vv at *;generalize Cn.rangesA (fun _ r=>Cn.value r) 1 (N.take k)=xs,r.kind=kd,r.lo=lo,r.hi=hi,r.n=n at *;generalize r.name=nm,r.other=ot,r.wt=wt,r.to.length=tl at *;go_wp2;clear l x0 x1 x2 x3 x4 x5 x6 x7 z0 z1 z2 z3 z4 z5 z6 z7 aQ;refine wp_region_held_drew (S:=fun w'=>BoxAt w' wr.heap.size kd lo hi n (.slice A tl J) nm ot wt) f4y (V U _ (x0i ⟨1,rfl⟩)) (fun hHeld=>?_);refine tk9 0 u5 ?_;refine tk9 1 (.agg #[.int .i64 kd,.int .i64 lo,.int .i64 hi,.int .i64 n,.slice A tl J,.string nm,.string ot,.float .f64 wt]) ?_ (hy:=T8Q);refine tk9 2 (.agg #[.int .i64 kd,.int .i64 lo,.int .i64 hi,.int .i64 n,.slice A tl J,.string nm,.string ot,.float .f64 wt]) ?_ (hy:=T8Q);refine rd9 3 fun K hK=>?_;go_simp;refine c1m (V KV _ (x0i ⟨1,rfl⟩)) fun w2 aL=>?_;have ae:=O (bthen (x0i ⟨1,rfl⟩) aL:Bw d w2);clear aL;refine hK.out _ _ ?_ (fun hHeld=>?_)
   ·exact V U _ (V ae)
   clear hK K
   try simp only[Act.put,sa9,sb9,sc9]
   refine rd9 4 fun K hK=>?_;go_simp;refine(V KS _ (V ae)).mono ?_;rintro e3 w3 ⟨v3,rfl,G,L⟩;have p:=bthen (V ae) L;obtain⟨g3,aI,rfl,aw⟩:=z0m G aU;have aA:=V aG _ p;have be:=aA.2.size;have HM:=O aA;have c:=O G.1;have aq:=O aw;have am:=O (Ti.x4W ys);have af:=O p;clear G L p aA aw;refine hK.out _ _ ?_ (fun hHeld=>?_)
   ·exact V U _ (V af)
   clear hK K
   try simp only[Act.put,sa9,sb9,sc9]
   refine rd9 5 fun K hK=>?_;refine step_append_lies _ (by rfl) (.tmp 16) (.tmp 20) 230 (by rfl) w1.heap.size 272 i0 (.agg #[.int .i64 0,.int .i64 0,.int .i64 0]) 3 24 underlying230 aR aW aX aY rfl f6J u5 xs.length (Ti.rcells xs) (by rfl) (V HM).1.2.2 ⟨g3,0,none⟩ ys.length aI (Ti.rcells ys) (by rfl) (by rw[Ti.x1K]) (V aq) (V am) f6J T7X f6J f6J w3.heap.size rfl ?_;intro gg f w8 Z B aK aM;have ar:=z5X (V U _ (V af)) (B.block wr.heap.size (Nat.lt_of_lt_of_le (V aH) (V af).size) (fun e=>V aD e.symm));have R:=z3P (V HM).2 (V HM).1 (V c) f6J Z B;rw[<- V aF]at R;have HR:=O R;clear R Z B aK;refine hK.out _ _ ?_ (fun hHeld=>?_)
   ·exact ar
   clear hK K ar
   try simp only[Act.put,sa9,sb9,sc9]
   refine tk9 6 (.slice (some ⟨gg,0,none⟩) (xs.length+ys.length) f) ?_;refine wpAnyH_done f4y ?_ _;clear hHeld HM c aq am aG U KV KS aF ae af aD aH aM;go_wp2
   go_roundw
   case rel=>exact⟨k+1,g2D,f6J,(V HR).1,(V HR).2⟩
   case measure=>exact g7W
  ·obtain rfl:k=N.length:=f6J;rw[List.take_of_length_le (l0r _)]at ab;have KB:=O (y7M w1 wr _ _ T ab (by have:=V ag N.length;rw[List.take_of_length_le (l0r _)]at this;exact f6J) (V E));obtain⟨ro,bh,aT,_,_⟩:=ab.sr.shape;subst aT;clear ab T D az Q ag E;go_wp2_with fail;refine(V KB).mono ?_;intro e w9 aJ;have h9:=V t e w9 aJ;obtain⟨a,m,rfl,q2,q3,q4,q5⟩:=h9;have HF:x6q w (Cn.rangesA (fun _ r=>Cn.value r) 1 N) (.returned (.pointer (some a))) w9:=⟨a,m,rfl,q2,q3,q4,q5⟩;clear KB aJ t q2 q3 q4 q5;go_wp2;go_ret;exact HF
open Ti
def SpkB(w:World)(fs:List Rec)(e:Ending)(w':World):Prop:=∃a m vl ps,e=.returned (.agg #[.pointer (some a),vl])/\m.Perm (Cn.rangesA (fun i _=>(i:Int)) 1 fs)/\(m.Pairwise fun x y=>Tri.lo x<=Tri.lo y)/\T4 w' w.heap.size (.pointer (some a)) m 0/\Rown w' w.heap.size vl ps/\ps.map (·.1)=Cn.none::fs/\Below w.heap.size w w'
structure Spst(w w1 wr:World)(rv lv:Value)(xs:List Tri.Rg)(ps:List (Rec×Value)):Prop where
 bel:Below w.heap.size w wr
 sz:w1.heap.size<=wr.heap.size
 s1:w.heap.size+2<=w1.heap.size
 old:∀g,g<w1.heap.size->g≠w.heap.size+1->wr.heap[g]?=w1.heap[g]?
 res:w1.heap[w.heap.size]?=some (.cells #[.pointer none,.slice none 0 0] 88 (0,0))
 rng:Or4 wr w1.heap.size rv xs
 rcs:Rown wr w.heap.size lv ps
 lvb:∀g,lv.ownBlock=some g->g=w.heap.size+1\/w1.heap.size<=g
section
variable {w w1 wr w':World} {rv lv v' vt:Value} {xs ys:List Tri.Rg} {ps:List (Rec×Value)} {r:Rec} {o:Obj}
theorem Spst.below(h:Spst w w1 wr rv lv xs ps)(Y:Bw wr w'):Spst w w1 w' rv lv xs ps :=
 ⟨bthen h.bel Y,Nat.le_trans h.sz Y.size,h.s1,fun g Z D=>by rw[Y.block g E8c];exact h.old g Z D,h.res,h.rng.below Y,⟨x0w h.rcs.1 fun g C=>Y.block g (h.rcs.1.lt g C).2,fun p s=>(h.rcs.2 p s).below Y⟩,h.lvb⟩
theorem Spst.keep(h:Spst w w1 wr rv lv xs ps){B}(L:wr.heap.size<=w'.heap.size)(Y:Bw w w')(m:w1.heap.size<=B)(G:∀g,g<wr.heap.size->g≠B->w'.heap[g]?=wr.heap[g]?)(hr:rv.ownBlock≠some B)(S:lv.ownBlock≠some B)(s:∀p∈ps,p.2.ownBlock≠some B):Spst w w1 w' rv lv xs ps :=
 ⟨Y,Nat.le_trans h.sz L,h.s1,fun g Z D=>by rw[G g E8c f6J];exact h.old g Z D,h.res,⟨h.rng.1,h.rng.2.1,x0w h.rng.2.2 fun g C=>G g (h.rng.2.2.lt g C).2 (fun e=>hr (by rw[C,e]))⟩,
  ⟨x0w h.rcs.1 fun g C=>G g (h.rcs.1.lt g C).2 (fun e=>S (by rw[C,e])),fun p U=>(h.rcs.2 p U).keep fun g C=>G g ((h.rcs.2 p U).2.2.lt g C).2 (fun e=>s p U (by rw[C,e]))⟩,h.lvb⟩
theorem Spst.ranges(h:Spst w w1 wr rv lv xs ps)(hy:FitR ys)(S:xs.length+ys.length<=5000000000)(hr:w'.ownsRow w1.heap.size 272 3 v' (xs.length+ys.length) (Ti.rcells xs++Ti.rcells ys))(C:wr.grownBy w' rv.ownBlock):Spst w w1 w' v' lv (xs++ys) ps:=by
 have k:∀g,g<wr.heap.size->rv.ownBlock≠some g->w'.heap[g]?=wr.heap[g]?:=fun g Z D=>C.block g Z (fun e=>D e.symm);have A:∀g,rv.ownBlock=some g->w1.heap.size<=g:=fun g U=>(h.rng.2.2.lt g U).1;refine⟨h.bel.grown C h.bel.size (fun g U=>Nat.le_trans (by have:=h.s1;exact f6J) (A g U)),Nat.le_trans h.sz C.size,h.s1,fun g Z D=>?_,h.res,⟨fun x hx=>?_,u7D,F9B⟩,⟨x0w h.rcs.1 fun g U=>k g (h.rcs.1.lt g U).2 (x0K h.rcs.1 h.rng.2.2 e8N U),fun p s=>?_⟩,h.lvb⟩
 ·rw[k g E8c (fun e=>by have:=A g e;exact f6J)];exact h.old g Z D
 ·rcases List.mem_append.1 hx with hx | hx
  ·exact h.rng.1 x hx
  ·exact hy x hx
 ·have n:=h.rcs.2 p s;exact n.keep fun g U=>k g (n.2.2.lt g U).2 (x0K n.2.2 h.rng.2.2 e8N U)
theorem Spst.more(h:Spst w w1 wr rv lv xs ps)(A:Ok .i32 21 wr w.heap.size vt r.to){gg cap}(hr:w'.ownsRow w.heap.size 60 8 (.slice (some ⟨gg,0,none⟩) (ps.length+1) cap) (ps.length+1) (rcells ps++x0A (r,vt)))(C:(wr.alloc o).grownBy w' lv.ownBlock)(Q:lv.ownBlock=some gg\/gg=wr.heap.size+1):Spst w w1 w' rv (.slice (some ⟨gg,0,none⟩) (ps.length+1) cap) xs (ps++[(r,vt)]):=by
 have L:=h.bel.size;have f:=h.sz;have N:=h.s1
 have k:∀g,g<wr.heap.size->lv.ownBlock≠some g->w'.heap[g]?=wr.heap[g]?:=fun g Z D=>by
  rw[C.block g e4I (fun e=>D e.symm)];exact((Below.refl wr.heap.size wr).alloc (l0r _) o).block g Z
 refine⟨(h.bel.alloc L o).grown C e4I (fun g U=>(h.rcs.1.lt g U).1),Nat.le_trans f (by have:=C.size;rw[World.size_alloc]at this;exact f6J),N,fun g Z D=>?_,h.res,⟨h.rng.1,h.rng.2.1,x0w h.rng.2.2 fun g U=>k g (h.rng.2.2.lt g U).2 (x0K h.rng.2.2 h.rcs.1 e8N U)⟩,⟨?_,fun p hp=>?_⟩,fun g U=>?_⟩
 ·rw[k g f6J (fun e=>by rcases h.lvb g e with h3 | h3<;>omega)];exact h.old g Z D
 ·rw[x3I]at hr;simpa using hr
 ·rcases List.mem_append.1 hp with hp | hp
  ·have n:=h.rcs.2 p hp;exact n.keep fun g U=>k g (n.2.2.lt g U).2 (x0K n.2.2 h.rcs.1 e8N U)
  ·simp only[List.mem_singleton]at hp;subst hp;exact A.keep fun g U=>k g (A.2.2.lt g U).2 (x0K A.2.2 h.rcs.1 e8N U)
 ·simp only[Value.ownBlock,Option.some.injEq]at U;subst U;rcases Q with h3 | h3
  ·exact h.lvb _ h3
  ·exact e5w
end
theorem z7X w:∃W1 x,w.alloc (.cells #[.pointer none,.slice none 0 0] 88)=W1/\W1.alloc (.cells #[.int .i64 0,.int .i64 0,.int .i64 0,.int .i64 0,.slice none 0 0,.string ⟨#[]⟩,.string ⟨#[]⟩,.float .f64 0] 60)=x/\Bw w x/\W1.heap.size=w.heap.size+1/\x.heap.size=w.heap.size+2/\∀w1,Bw x w1->Spst w w1 w1 (.slice none 0 0) (.slice (some ⟨w.heap.size+1,0,none⟩) 1 1) [] [(Cn.none,.slice none 0 0)]:=by
 refine⟨_,_,rfl,rfl,((b0r).alloc (l0r _) _).alloc M7M _,World.size_alloc _ _,by rw[World.size_alloc,World.size_alloc],fun w1 Y=>?_⟩;have L:=Y.size;rw[World.size_alloc,World.size_alloc]at L;have f:Bw w ((w.alloc (.cells #[.pointer none,.slice none 0 0] 88)).alloc (.cells #[.int .i64 0,.int .i64 0,.int .i64 0,.int .i64 0,.slice none 0 0,.string ⟨#[]⟩,.string ⟨#[]⟩,.float .f64 0] 60)):=((b0r).alloc (l0r _) _).alloc M7M _;refine⟨bthen f Y,l0r _,f6J,fun g _ _=>rfl,?_,Or4.nil _ _,⟨⟨rfl,.inr ⟨w.heap.size+1,1,#[.int .i64 0,.int .i64 0,.int .i64 0,.int .i64 0,.slice none 0 0,.string ⟨#[]⟩,.string ⟨#[]⟩,.float .f64 0],rfl,f6J,?_,l0r _,T7W,rfl,rfl⟩⟩,fun p s=>?_⟩,fun g C=>?_⟩
 ·rw[Y.block _ E3k];exact n9Y
 ·rw[Y.block _ E3k];show((w.heap.push _).push _)[w.heap.size+1]?=_;rw[Array.getElem?_push,if_pos M7M]
 ·simp only[List.mem_singleton]at s;subst s;exact Ok.nil _ _ _ _
 ·simp only[Value.ownBlock,Option.some.injEq]at C;exact .inl C.symm
theorem q0m(k:Nat) z(h:[Value.int .i64 0,.int .i64 0,.int .i64 0,.int .i64 0,.slice none 0 0,.string ⟨#[]⟩,.string ⟨#[]⟩,.float .f64 0][k]?=some (.int .i32 z)):False:=by grind
theorem q0P{w1 W B}(m:w1.heap[B]?=some (.cells #[.int .i64 0,.int .i64 0,.int .i64 0,.int .i64 0,.slice none 0 0,.string ⟨#[]⟩,.string ⟨#[]⟩,.float .f64 0] 60 (0,0)))(G:∀g,g<w1.heap.size->g≠B->W.heap[g]?=w1.heap[g]?){va zs}(h:Sk .i32 w1 va zs):Sk .i32 W va zs:=by
 obtain⟨Z,D,J⟩:=h;refine⟨Z,D,?_⟩;rcases J with J | ⟨b,P,M,e,y,q,K⟩
 ·exact .inl J
 ·refine .inr ⟨b,P,M,e,y,q,fun i hi=>?_⟩;have I:=K i hi
  have t:b≠B:=fun e=>by
   subst e;rw[x9H .i32 zs i w3y]at I;simp only[World.cell?,m]at I;exact q0m _ _ v0B
  rw[World.cell?_of_block (G b (x0a I) t)];exact I
theorem z3Q{w:World}{B e F n:Nat}{v us}(h:w.ownsRow B e F v n us){g}(C:v.ownBlock=some g):∃Q,w.heap[g]?=some (.cells Q e (0,0)):=by
 rcases h.2 with⟨rfl,_⟩ | ⟨S,M,Q,rfl,_,H,_⟩
 ·cases C
 ·simp only[Value.ownBlock,Option.some.injEq]at C;subst C;exact⟨Q,H⟩
theorem z1n{w:World}{B e Y F n g:Nat}{v us cur}(h:w.ownsRow B e F v n us)(H:w.heap[g]?=some (.cells cur Y (0,0)))(t:e≠Y):v.ownBlock≠some g:=fun C=>by
 obtain⟨c,I⟩:=z3Q h C;rw[H]at I;simp only[Option.some.injEq,Obj.cells.injEq]at I;exact t I.2.1.symm
theorem x4H{w:World}{g c0 c1 c2 c3 c4 c5 c6 c7}(h:w.heap[g]?=some (.cells #[c0,c1,c2,c3,c4,c5,c6,c7] 60 (0,0))):w.cell? ⟨g,0,none⟩=some c0/\w.cell? ⟨g,1,none⟩=some c1/\w.cell? ⟨g,2,none⟩=some c2/\w.cell? ⟨g,3,none⟩=some c3/\w.cell? ⟨g,4,none⟩=some c4/\w.cell? ⟨g,5,none⟩=some c5/\w.cell? ⟨g,6,none⟩=some c6/\w.cell? ⟨g,7,none⟩=some c7 :=
 ⟨cell_of (j:=0) h (by show 0<8;exact f6J),cell_of (j:=1) h (by show 1<8;exact f6J),cell_of (j:=2) h (by show 2<8;exact f6J),cell_of (j:=3) h (by show 3<8;exact f6J),cell_of (j:=4) h (by show 4<8;exact f6J),cell_of (j:=5) h (by show 5<8;exact f6J),cell_of (j:=6) h (by show 6<8;exact f6J),cell_of (j:=7) h (by show 7<8;exact f6J)⟩
def y7i(w:World)(v:Value)(xs:List Tri.Rg)(e:Ending)(w':World):Prop:=∃a m,e=.returned (.pointer (some a))/\m.Perm xs/\(m.Pairwise fun x y=>Tri.lo x<=Tri.lo y)/\T4 w' w.heap.size (.pointer (some a)) m 0/\w.grownBy w' v.ownBlock
theorem y5M{a b c:World}{row}(h:a.grownBy b row)(k:Bw b c):a.grownBy c row:=by
 refine⟨k.os.trans h.os,k.tape.trans h.tape,k.output.trans h.output,Nat.le_trans h.size k.size,fun g Z D=>?_⟩;rw[k.block g (Nat.lt_of_lt_of_le Z h.size)];exact h.block g Z D
theorem y5i B w v(xs:List Tri.Rg)(h:Or4 w B v xs)(S:xs.length<=5000000000)(N:∀m:List Tri.Rg,m.Perm xs->(m.Pairwise fun x y=>Tri.lo x<=Tri.lo y)->Tri.Val 0 m):Calls prog 147 #[v] w (y7i w v xs):=by
 have i:=O (y1M w B v xs h S);have R:=O N;obtain⟨F,M,rfl,_,_⟩:=h.sr.shape;go_enter func147,ntmps147;go_wp2_with fail;refine(V i).mono ?_;rintro P w1 ⟨rfl,ys,s,A,Z,C⟩;have z:=V R ys s A;have j:=O (z4R _ ys 0 w1 Z ⟨f6J,f6J⟩);have L:(Tri.check 0 ys).2=0:=Tri.x3X.2 ⟨z,f6J,f6J⟩;have I:=O L;have Q:=O s;have D:=O A;have W:=O C;go_wp2_with fail;refine(V j).mono ?_;rintro E t ⟨H,⟨_,a,rfl,u⟩ | ⟨J,_⟩⟩
 ·have U:y7i w (.slice F xs.length M) xs (.returned (.pointer (some a))) t:=⟨a,ys,rfl,V Q,V D,u.lower (V W).size,y5M (V W) H⟩;exact m2G
 ·exact absurd (V I) J
theorem Spst.fin{w w1 wr w9 rv lv}{xs:List Tri.Rg}{ps:List (Rec×Value)}(h:Spst w w1 wr rv lv xs ps)(C:wr.grownBy w9 rv.ownBlock){a}{m:List Tri.Rg}(u:T4 w9 wr.heap.size (.pointer (some a)) m 0) :
  w9.heap[w.heap.size]?=some (.cells #[.pointer none,.slice none 0 0] 88 (0,0)) /\
  ((w9.setCell ⟨w.heap.size,0,none⟩ (.pointer (some a))).setCell ⟨w.heap.size,1,none⟩ lv).heap[w.heap.size]?=some (.cells #[.pointer (some a),lv] 88 (0,0)) /\
  T4 ((w9.setCell ⟨w.heap.size,0,none⟩ (.pointer (some a))).setCell ⟨w.heap.size,1,none⟩ lv) w.heap.size (.pointer (some a)) m 0/\Rown ((w9.setCell ⟨w.heap.size,0,none⟩ (.pointer (some a))).setCell ⟨w.heap.size,1,none⟩ lv) w.heap.size lv ps /\
  Bw w ((w9.setCell ⟨w.heap.size,0,none⟩ (.pointer (some a))).setCell ⟨w.heap.size,1,none⟩ lv):=by
 have E:=h.s1;have F:=h.sz;have k:∀g,g<wr.heap.size->rv.ownBlock≠some g->w9.heap[g]?=wr.heap[g]?:=fun g Z D=>C.block g Z (fun e=>D e.symm);have A:∀g,rv.ownBlock=some g->w1.heap.size<=g:=fun g U=>(h.rng.2.2.lt g U).1
 have J:w9.heap[w.heap.size]?=some (.cells #[.pointer none,.slice none 0 0] 88 (0,0)):=by
  rw[k _ f6J (fun e=>by have:=A _ e;exact f6J),h.old _ f6J f6J];exact h.res
 have B:Rown w9 w.heap.size lv ps:=⟨x0w h.rcs.1 fun g U=>k g (h.rcs.1.lt g U).2 (x0K h.rcs.1 h.rng.2.2 e8N U),fun p s=>(h.rcs.2 p s).keep fun g U=>k g ((h.rcs.2 p s).2.2.lt g U).2 (x0K (h.rcs.2 p s).2.2 h.rng.2.2 e8N U)⟩;have v:∀g,g≠w.heap.size->((w9.setCell ⟨w.heap.size,0,none⟩ (.pointer (some a))).setCell ⟨w.heap.size,1,none⟩ lv).heap[g]?=w9.heap[g]?:=fun g t=>(by rw[x0e _ t,x0e _ t]);have n:Bw w w9:=h.bel.grown C h.bel.size (fun g U=>by have:=A g U;exact f6J);refine⟨J,?_,?_,⟨x0w B.1 fun g U=>v g (fun e=>z1n B.1 J e8N (by rw[U,e])),fun p s=>(B.2 p s).keep fun g U=>v g (fun e=>z1n (B.2 p s).2.2 J e8N (by rw[U,e]))⟩,x0b (x0b n (l0r _) _) (l0r _) _⟩
 ·rw[x0c (x0c J _)];rfl
 ·exact T4.lower (u.keep (by rw[x0V,x0V];exact l0r _) fun g Z _=>v g f6J) f6J
open Go.RowKit Go.MapKept Go.WideMaps
open Go.ChangeMaps (setBlock)
theorem x3M{w b o}(h:b<w.heap.size):(setBlock w b o).heap[b]?=some o:=by
 show(w.heap.setIfInBounds b o)[b]?=_;simp[h]
theorem x0q{w b g o}(h:g≠b):(setBlock w b o).heap[g]?=w.heap[g]?:=by
 show(w.heap.setIfInBounds b o)[g]?=_;simp[Ne.symm h]
theorem x1G w b o:(setBlock w b o).heap.size=w.heap.size:=by
 show(w.heap.setIfInBounds b o).size=_;simp
theorem x3A{B a w}(h:Below B a w){b}(Y:B<=b) o:Below B a (setBlock w b o):=by
 refine⟨h.os,h.tape,h.output,?_,fun g C=>?_⟩
 ·rw[x1G];exact h.size
 ·rw[x0q f6J];exact h.block g C
structure Cst(w wr:World)(lp ls:List Rec):Prop where
 bel:Below w.heap.size w wr
 sz:w.heap.size+4<=wr.heap.size
 res:wr.heap[w.heap.size]?=some (.cells #[.map none,.map none] 98 (0,0))
 hx:wr.heap[w.heap.size+3]?=some (.cells #[.map (some (w.heap.size+1)),.map (some (w.heap.size+2))] 98 (0,0))
 mp:GAt KP wr (w.heap.size+1) (x3n lp)
 ms:GAt KR wr (w.heap.size+2) (secC ls)
section
variable {w wr w':World} {lp ls lp' ls':List Rec}
theorem Cst.below(h:Cst w wr lp ls)(Y:Bw wr w'):Cst w w' lp ls:=by
 have F:=h.sz;obtain⟨P,y,u,Z⟩:=h.mp;obtain⟨E,q,U,B⟩:=h.ms;exact⟨bthen h.bel Y,Nat.le_trans F Y.size,by rw[Y.block _ f6J];exact h.res,by rw[Y.block _ f6J];exact h.hx,⟨P,y,by rw[Y.block _ f6J];exact u,Z⟩,⟨E,q,by rw[Y.block _ f6J];exact U,B⟩⟩
theorem Cst.pair(h:Cst w wr lp ls){d:Array MapEntry}{cl}(C:GObj KP d cl (x3n lp')):Cst w (setBlock wr (w.heap.size+1) (.map d cl)) lp' ls:=by
 have F:=h.sz;obtain⟨E,q,U,B⟩:=h.ms;exact⟨x3A h.bel f6J _,e1T,n7Y,m4C,⟨d,cl,x3M f6J,C⟩,⟨E,q,by rw[x0q f6J];exact U,B⟩⟩
theorem Cst.second(h:Cst w wr lp ls){d:Array MapEntry}{cl}(C:GObj KR d cl (secC ls')):Cst w (setBlock wr (w.heap.size+2) (.map d cl)) lp ls':=by
 have F:=h.sz;obtain⟨E,q,U,B⟩:=h.mp;exact⟨x3A h.bel f6J _,e1T,n7Y,m4C,⟨E,q,by rw[x0q f6J];exact U,B⟩,⟨d,cl,x3M f6J,C⟩⟩
def CmpB(w:World)(rs:List Rec)(e:Ending)(w':World):Prop:=∃r1 r2,e=.returned (.agg #[.map (some r1),.map (some r2)])/\w.heap.size<=r1/\w.heap.size<=r2/\GAt KP w' r1 (x3n rs)/\GAt KR w' r2 (secC rs)/\Below w.heap.size w w'
theorem Cst.fin(h:Cst w wr lp lp):((wr.setCell ⟨w.heap.size,0,none⟩ (.map (some (w.heap.size+1)))).setCell ⟨w.heap.size,1,none⟩ (.map (some (w.heap.size+2)))).heap[w.heap.size]?=some (.cells #[.map (some (w.heap.size+1)),.map (some (w.heap.size+2))] 98 (0,0)) /\
  CmpB w lp (.returned (.agg #[.map (some (w.heap.size+1)),.map (some (w.heap.size+2))])) ((wr.setCell ⟨w.heap.size,0,none⟩ (.map (some (w.heap.size+1)))).setCell ⟨w.heap.size,1,none⟩ (.map (some (w.heap.size+2)))):=by
 have F:=h.sz;have v:∀g,g≠w.heap.size->((wr.setCell ⟨w.heap.size,0,none⟩ (.map (some (w.heap.size+1)))).setCell ⟨w.heap.size,1,none⟩ (.map (some (w.heap.size+2)))).heap[g]?=wr.heap[g]?:=fun g t=>(by rw[x0e _ t,x0e _ t]);obtain⟨P,y,u,Z⟩:=h.mp;obtain⟨E,q,U,B⟩:=h.ms;refine⟨by rw[x0c (x0c h.res _)];rfl,_,_,rfl,f6J,f6J,⟨P,y,by rw[v _ f6J];exact u,Z⟩,⟨E,q,by rw[v _ f6J];exact U,B⟩,x0b (x0b h.bel (l0r _) _) (l0r _) _⟩
end
theorem z6h w:∃W1 x q y,w.alloc (.cells #[.map none,.map none] 98)=W1/\W1.alloc (.map #[] 0)=x/\x.alloc (.map #[] 0)=q/\q.alloc (.cells #[.map (some (w.heap.size+1)),.map (some (w.heap.size+2))] 98)=y/\W1.heap.size=w.heap.size+1/\x.heap.size=w.heap.size+2/\q.heap.size=w.heap.size+3/\Cst w y [] []:=by
 refine⟨_,_,_,_,rfl,rfl,rfl,rfl,M7M,M7M,M7M,?_⟩;have Y:Bw w ((((w.alloc (.cells #[.map none,.map none] 98)).alloc (.map #[] 0)).alloc (.map #[] 0)).alloc (.cells #[.map (some (w.heap.size+1)),.map (some (w.heap.size+2))] 98)):=((((b0r).alloc (l0r _) _).alloc M7M _).alloc P8P _).alloc P8P _;refine⟨Y,M7M,?_,?_,⟨#[],0,?_,y8Y _ _ z0r⟩,⟨#[],0,?_,y8Y _ _ z4l⟩⟩
 ·show((((w.heap.push _).push _).push _).push _)[w.heap.size]?=_;rw[Array.getElem?_push,Array.getElem?_push,Array.getElem?_push,Array.getElem?_push];simp only[Array.size_push];rw[if_neg f6J,if_neg f6J,if_neg f6J,if_pos trivial]
 ·show((((w.heap.push _).push _).push _).push _)[w.heap.size+3]?=_;rw[Array.getElem?_push,Array.getElem?_push,Array.getElem?_push,Array.getElem?_push];simp only[Array.size_push];rw[if_pos trivial]
 ·show((((w.heap.push _).push _).push _).push _)[w.heap.size+1]?=_;rw[Array.getElem?_push,Array.getElem?_push,Array.getElem?_push,Array.getElem?_push];exact m7X
 ·show((((w.heap.push _).push _).push _).push _)[w.heap.size+2]?=_;rw[Array.getElem?_push,Array.getElem?_push,Array.getElem?_push,Array.getElem?_push];exact v6h
open Go.RowKit Go.MapKept Go.WideMaps
open Go.ChangeMaps (setBlock)
structure Cbx(W:World)(g x m1 m2 b off:Nat)(lo p q:Int)(vt:Value):Prop where
 lo:W.cell? ⟨g,1,none⟩=some (.int .i64 lo)
 lst:W.cell? ⟨g,4,none⟩=some vt
 x0:W.cell? ⟨x,0,none⟩=some (.map (some m1))
 x1:W.cell? ⟨x,1,none⟩=some (.map (some m2))
 a:W.cell? ⟨b,off,none⟩=some (.int .i32 p)
 b:W.cell? ⟨b,off+1,none⟩=some (.int .i32 q)
theorem Cbx.block{W:World}{g x u Z b off r:Nat}{lo p q:Int}{vt:Value}(h:Cbx W g x u Z b off lo p q vt){d:Array MapEntry}{cl:Nat}(o:Obj)(hr:W.heap[r]?=some (.map d cl)):Cbx (setBlock W r o) g x u Z b off lo p q vt:=by
 have k:∀S j v,W.cell? ⟨S,j,none⟩=some v->(setBlock W r o).cell? ⟨S,j,none⟩=some v:=fun S j v I=>f3z
 exact⟨k _ _ _ h.lo,k _ _ _ h.lst,k _ _ _ h.x0,k _ _ _ h.x1,k _ _ _ h.a,k _ _ _ h.b⟩
theorem Cbx.drew{W:World}{g x u Z b off:Nat}{lo p q:Int}{vt:Value}(h:Cbx W g x u Z b off lo p q vt):Cbx W.drew g x u Z b off lo p q vt:=⟨h.lo,h.lst,h.x0,h.x1,h.a,h.b⟩
theorem y1R(t:TypeId)(W:World):(Instr.makeMap t none).run prog W=.ok (.map (some W.heap.size)) (W.alloc (.map #[] 0)):=by
 simp[Instr.makeMap,Result.andThen]
theorem z4K(w:World):(zeroValue 21).run prog w=.ok (.int .i32 0) w:=by
 obtain⟨i,Z,D,_,_⟩:=info_parts Tryz.info21;exact s4o
theorem Tryz.info93:(prog.info? 3).map (fun i=>(i.zero,i.size,i.bytes))=some (some (.int .i64 0),1,8):=f4x
theorem z4L(w:World):(zeroValue 3).run prog w=.ok (.int .i64 0) w:=by
 obtain⟨i,Z,D,_,_⟩:=info_parts Tryz.info93;exact s4o
theorem z4k(l:List Rec)(b:Int):(secC l (.int .i32 b)).getD (.int .i64 0)=.int .i64 (Cn.secOf l b:Nat):=by
 show(if Cn.secOf l b=0 then none else some (Value.int .i64 (Cn.secOf l b:Nat))).getD _=_;by_cases h:Cn.secOf l b=0
 ·rw[if_pos h,h];rfl
 ·rw[if_neg h];rfl
theorem x4a(v:Value)(rs:List Rec)(w:World)(hv:Rcs w v rs)(aL:∀r∈rs,r.kind=7->r.to.length=2/\0<=r.lo/\r.lo<=1114111)(hl:rs.length<=4096):Calls prog 96 #[v] w (CmpB w rs):=by
 obtain⟨W1,W2,W3,W4,aW,aX,aY,aZ,bh,bj,bC,aF⟩:=z6h w;have bp:=hv.1;obtain⟨ao,aT,g,_,_⟩:=hv.shape
 have D:Hid (∀k W,k<rs.length->Bw w W->∃b P,v=.slice (some ⟨b,P,none⟩) rs.length aT/\RecAt W b (P+k*8) (rs.getD k Cn.none)/\RecFit (rs.getD k Cn.none)):=fun k W G hW=>by
  obtain⟨b,P,bn,he,_,_,hc⟩:=(hv.below hW).place f6J;rw[g]at he;obtain⟨e1,e2,e3⟩:=Value.slice.inj he;refine⟨b,P,?_,hc k G,(hv.below hW).fit G⟩;rw[g,e1]
 have aj:Hid (∀k,k<rs.length->rs.take (k+1)=rs.take k++[rs.getD k Cn.none]/\rs.getD k Cn.none∈rs):=fun k G=>by
  refine⟨?_,?_⟩
  ·rw[List.take_add_one];simp[List.getD,G]
  ·simp[List.getD,G]
 have Q:=O aL;have F:=O aF;clear hv aL aF;subst g;have be:=y1R;go_enter func96,ntmps96;go_wp2;clear be;go_loopw[5,11] (fun _ iv wr=>∃k:Nat,iv=.int .i64 k/\k<=rs.length/\Cst w wr (rs.take k) (rs.take k)) (fun _ iv _=>rs.length-(intOf iv).toNat)
 case atStart=>exact⟨0,rfl,f6J,V F⟩
 case round =>
  obtain⟨k,rfl,G,hC⟩:=hrel;clear F aW aX aY aZ bh bj;by_cases aK:k<rs.length
  ·obtain⟨b,P,he,hA,s⟩:=V D k wr aK hC.bel;obtain⟨q1,_,_⟩:=Value.slice.inj he;clear he;subst q1;obtain⟨aD,u⟩:=V aj k aK;have aw:=V Q _ u;obtain⟨x0,x1,x2,x3,⟨va,x4,t⟩,x5,x6,x7⟩:=hA;obtain⟨aP,J,rfl,_,_⟩:=t.shape;clear D aj Q u;generalize rs.getD k Cn.none=r at *;obtain⟨V1,aH⟩:∃V1,wr.alloc (.cells #[.int .i64 r.kind,.int .i64 r.lo,.int .i64 r.hi,.int .i64 r.n,.slice aP r.to.length J,.string r.name,.string r.other,.float .f64 r.wt] 60)=V1:=⟨_,rfl⟩;have ar:Bw wr V1:=by rw[<- aH];exact(b0r).alloc (l0r _) _
   have R:V1.heap[wr.heap.size]?=some (.cells #[.int .i64 r.kind,.int .i64 r.lo,.int .i64 r.hi,.int .i64 r.n,.slice aP r.to.length J,.string r.name,.string r.other,.float .f64 r.wt] 60 (0,0)):=by
    rw[<- aH];exact s6Q
   have aG:=hC.below ar;have bB:∀W a m,(store a (.float .f64 r.wt) m).run prog W=stored prog W a (.float .f64 r.wt) m:=fun W a m=>run_store prog W a _ m rfl;obtain⟨z0,y,z2,z3,z4,z5,z6,z7⟩:=x4H R;have p:=O aG;have ab:=O (t.below ar);have bA:=s.lo;clear hC aG t ar R s;by_cases h7:r.kind=7
   ·obtain⟨t2,l0,l1⟩:=aw h7;have aN:Rune (r.to.getD 0 0):=x0R (V ab) f6J;have aO:Rune (r.to.getD 1 0):=x0R (V ab) f6J
    have ae:Hid (x3n (rs.take k++[r]) (pk2 (r.to.getD 0 0) (r.to.getD 1 0))=some (.int .i32 r.lo)):=by
     show x3n (rs.take k++[r]) (pk2 (r.to.getD 0 0) (r.to.getD 1 0))=_;have hp:Cn.isP (r.to.getD 0 0) (r.to.getD 1 0) r=true:=d0t ⟨h7,rfl,rfl⟩;rw[y4B,Cn.x7j,if_pos hp];rfl
    have L:Hid (∀x,x≠pk2 (r.to.getD 0 0) (r.to.getD 1 0)->x3n (rs.take k++[r]) x=x3n (rs.take k) x):=fun x hx=>x7i fun a b e q=>hx (by rw[e,<- q.2.1,<- q.2.2])
    have af:Hid (secC (rs.take k++[r]) (.int .i32 (r.to.getD 1 0))=some (.int .i64 ((Cn.secOf (rs.take k) (r.to.getD 1 0):Nat)+1))):=by
     show(if Cn.secOf (rs.take k++[r]) (r.to.getD 1 0)=0 then none else some (Value.int .i64 (Cn.secOf (rs.take k++[r]) (r.to.getD 1 0):Nat)))=_
     have hs:Cn.secOf (rs.take k++[r]) (r.to.getD 1 0)=Cn.secOf (rs.take k) (r.to.getD 1 0)+1:=by
      rw[Cn.x8O,if_pos (And.intro h7 rfl)]
     rw[hs,if_neg f6J];rfl
    have ag:Hid (∀x,x≠Value.int .i32 (r.to.getD 1 0)->secC (rs.take k++[r]) x=secC (rs.take k) x):=fun x hx=>x8N fun b e q=>hx (by rw[e,<- q.2]);have T:=Cn.z4m (rs.take k) (r.to.getD 1 0);have bt:Cn.secOf (rs.take k) (r.to.getD 1 0)<=4096:=(by rw[List.length_take]at T;exact f6J);obtain⟨A,E,pc,aM,_,_,l⟩:=(V ab).place f6J;have ya:=l 0 f6J;have yb:=l 1 f6J;rw[Nat.add_zero]at ya;obtain⟨e1,_,e3⟩:=Value.slice.inj aM;subst e1;subst e3;have I:=(V p).hx;have Z:Hid (Cbx V1 wr.heap.size (w.heap.size+3) (w.heap.size+1) (w.heap.size+2) A E r.lo (r.to.getD 0 0) (r.to.getD 1 0) (.slice (some ⟨A,E,none⟩) r.to.length J)):=⟨y,z4,cell_of (j:=0) I n5Z,cell_of (j:=1) I w2h,ya,yb⟩;obtain⟨es,cl,hu,aJ⟩:=x9o (w:=V1.drew) (M:=95) klP underlying95 (r:=w.heap.size+1) (V p).mp ⟨_,_,rfl,aN,aO⟩ (V ae) (V L);have d:Hid (Cst w (setBlock V1.drew (w.heap.size+1) (.map es cl)) (rs.take k++[r]) (rs.take k)):=((V p).below (x0i ⟨1,rfl⟩)).pair aJ
    have Y:Hid (Cbx (setBlock V1.drew (w.heap.size+1) (.map es cl)) wr.heap.size (w.heap.size+3) (w.heap.size+1) (w.heap.size+2) A E r.lo (r.to.getD 0 0) (r.to.getD 1 0) (.slice (some ⟨A,E,none⟩) r.to.length J)):=by
     obtain⟨aV,aU,i,_⟩:=(V p).mp;exact(V Z).drew.block _ i
    have bu:IntKind.i32.wrap r.lo=r.lo:=(by rw[IntKind.wrap_i32];exact f6J);have bD:((Cn.secOf (rs.take k) (r.to.getD 1 0):Nat):Int)+1<=5000:=f6J;unfold pk2 at hu;clear aJ ae L l aM ya yb I ab aw T aN aO;rw[t2]at *;generalize r.to.getD 0 0=pa,r.to.getD 1 0=B at *;generalize hsn:Cn.secOf (rs.take k) B=sn at *;have aS:=O hsn;clear hsn;generalize hkd:r.kind=kd at *;have ba:(kd==7)=true:=(by rw[beq_iff_eq];exact h7);clear hkd h7;go_wp2;clear x0 x1 x2 x3 x4 x5 x6 x7 z0 y z2 z3 z4 z5 z6 z7;refine wp_region_held_drew (S:=fun w'=>Cbx w' wr.heap.size (w.heap.size+3) (w.heap.size+1) (w.heap.size+2) A E r.lo pa B (.slice (some ⟨A,E,none⟩) 2 J)) f4y (V Z).drew (fun hHeld=>?_);refine tk9 0 (.pointer (some ⟨w.heap.size+3,0,none⟩)) ?_ (hy:=W5a);refine tk9 1 (.map (some (w.heap.size+1))) ?_ (hy:=W5a);refine tk9 2 (.pointer (some ⟨wr.heap.size,4,none⟩)) ?_ (hy:=W5a);refine tk9 3 (.slice (some ⟨A,E,none⟩) 2 J) ?_ (hy:=W5a);refine tk9 4 (.pointer (some ⟨A,E,none⟩)) ?_ (hy:=W5a);refine tk9 5 (.int .i32 pa) ?_ (hy:=W5a);refine tk9 6 (.pointer (some ⟨wr.heap.size,4,none⟩)) ?_ (hy:=W5a);refine tk9 7 (.slice (some ⟨A,E,none⟩) 2 J) ?_ (hy:=W5a);refine tk9 8 (.pointer (some ⟨A,E+1,none⟩)) ?_ (hy:=W5a);refine tk9 9 (.int .i32 B) ?_ (hy:=W5a);refine tk9 10 (.agg #[.int .i32 pa,.int .i32 B]) ?_ (hy:=W5a);refine tk9 11 (.pointer (some ⟨wr.heap.size,1,none⟩)) ?_ (hy:=W5a);refine tk9 12 (.int .i64 r.lo) ?_ (hy:=W5a);refine tk9 13 (.int .i32 r.lo) ?_ (hy:=W5a);refine rd9 14 fun K hK=>?_;go_simp;refine hK.out _ _ ?_ (fun hHeld=>?_)
    ·exact V Y
    clear hK K;refine wpAnyH_done f4y ?_ _;clear hHeld hu Z p;generalize setBlock V1.drew (w.heap.size+1) (.map es cl)=W5 at *;have aC:=(z4Y (w:=W5.drew) (M:=96) (z:=.int .i64 0) klR underlying96 z4L (r:=w.heap.size+2) (V d).ms ⟨B,rfl⟩).2;rw[z4k,V aS]at aC;obtain⟨aq,am,bm,ai⟩:=x9o (w:=W5.drew) (M:=96) klR underlying96 (r:=w.heap.size+2) (V d).ms ⟨B,rfl⟩ (V af) (V ag);have aR:Hid (Cst w (setBlock W5.drew (w.heap.size+2) (.map aq am)) (rs.take k++[r]) (rs.take k++[r])):=((V d).below (x0i ⟨1,rfl⟩)).second ai
    have az:Hid (Cbx (setBlock W5.drew (w.heap.size+2) (.map aq am)) wr.heap.size (w.heap.size+3) (w.heap.size+1) (w.heap.size+2) A E r.lo pa B (.slice (some ⟨A,E,none⟩) 2 J)):=by
     obtain⟨aV,aU,i,_⟩:=(V d).ms;exact(V Y).drew.block _ i
    have H:Hid (Cbx W5.drew wr.heap.size (w.heap.size+3) (w.heap.size+1) (w.heap.size+2) A E r.lo pa B (.slice (some ⟨A,E,none⟩) 2 J)):=(V Y).drew;have bw:IntKind.i64.wrap ((sn:Int)+1)=(sn:Int)+1:=(by rw[IntKind.wrap_i64];exact f6J);clear ai af ag d Y;go_wp2;refine wp_region_held_drew (S:=fun w'=>Cbx w' wr.heap.size (w.heap.size+3) (w.heap.size+1) (w.heap.size+2) A E r.lo pa B (.slice (some ⟨A,E,none⟩) 2 J)) f4y (V H) (fun hHeld=>?_);refine tk9 0 (.pointer (some ⟨w.heap.size+3,1,none⟩)) ?_ (hy:=W5a);refine tk9 1 (.map (some (w.heap.size+2))) ?_ (hy:=W5a);refine tk9 2 (.pointer (some ⟨wr.heap.size,4,none⟩)) ?_ (hy:=W5a);refine tk9 3 (.slice (some ⟨A,E,none⟩) 2 J) ?_ (hy:=W5a);refine tk9 4 (.pointer (some ⟨A,E+1,none⟩)) ?_ (hy:=W5a);refine tk9 5 (.int .i32 B) ?_ (hy:=W5a);refine rd9 6 fun K hK=>?_;go_simp;refine hK.out _ _ ?_ (fun hHeld=>?_)
    ·exact V H
    clear hK K
    try simp only[Act.put,sa9,sb9,sc9]
    refine tk9 7 (.int .i64 ((sn:Int)+1)) ?_;refine rd9 8 fun K hK=>?_;go_simp;refine hK.out _ _ ?_ (fun hHeld=>?_)
    ·exact V az
    clear hK K;refine wpAnyH_done f4y ?_ _;clear hHeld bm aC H az;generalize setBlock W5.drew (w.heap.size+2) (.map aq am)=W7 at *;go_wp2
    go_roundw
    case rel=>exact⟨k+1,g2D,f6J,by rw[aD];exact V aR⟩
    case measure=>exact g7W
   ·have ba:(r.kind==7)=false:=b0f h7
    have aQ:Hid (Cst w V1 (rs.take k++[r]) (rs.take k++[r])):=by
     have hp:x3n (rs.take k++[r])=x3n (rs.take k):=funext fun v=>x7i fun a b _ q=>h7 q.1;have hs:secC (rs.take k++[r])=secC (rs.take k):=funext fun v=>x8N fun b _ q=>h7 q.1;have h:=V p;exact⟨h.bel,h.sz,h.res,h.hx,by rw[hp];exact h.mp,by rw[hs];exact h.ms⟩
    clear p ab aw h7;generalize r.kind=kd at *;go_wp2
    go_roundw
    case rel=>exact⟨k+1,g2D,f6J,by rw[aD];exact V aQ⟩
    case measure=>exact g7W
  ·obtain rfl:k=rs.length:=f6J;rw[List.take_of_length_le (l0r _)]at hC;have I:=hC.hx;have y0:=cell_of (j:=0) I n5Z;have y1:=cell_of (j:=1) I w2h;have F1:=hC.res;have z0:=cell_of (j:=0) F1 n5Z;have y:=cell_of (j:=1) F1 w2h;have f0:=fun j=>x0d (j:=j) F1;obtain⟨F2,F3⟩:=hC.fin;have aA:=O F2;have aB:=O F3;clear D aj Q hC I F1 F2 F3;go_wp2;have X:=V aA;have aI:=V aB;clear aA aB y0 y1 f0 z0 y;generalize(wr.setCell ⟨w.heap.size,0,none⟩ (.map (some (w.heap.size+1)))).setCell ⟨w.heap.size,1,none⟩ (.map (some (w.heap.size+2)))=bE at *;have z0:=cell_of (j:=0) X n5Z;have y:=cell_of (j:=1) X w2h;refine bodyPost_ret (v:=.agg #[.map (some (w.heap.size+1)),.map (some (w.heap.size+2))]) (by simp[results,Tryz.results96,go_sem,z0,y]) rfl aI
open Go.RowKit Go.MapKept Go.WideMaps
open Go.ChangeMaps (setBlock)
open Go.Lib (minS maxS run_min_strs run_max_strs)
def MxAt(w:World)(r:Nat):Prop:=∃c,GAt KN w r c
theorem y9U{w:World}{r:Nat}{a b:ByteArray}(h:MxAt w r)(g:Sh a)(Y:Sh b)(v:Value):∃d cl,(Instr.mapUpdate 99 (.map (some r)) (pk a b) v).run prog w=.ok () (setBlock w r (.map d cl))/\∃c,GObj KN d cl c:=by
 obtain⟨c,h⟩:=h;have dec:∀x:Value,Decidable (x=pk a b):=fun x=>Classical.propDecidable _;obtain⟨d,cl,Z,D⟩:=x9o (M:=99) (c':=fun x=>@ite _ (x=pk a b) (dec x) (some v) (c x)) klN underlying99 h ⟨a,b,rfl,g,Y⟩ (if_pos rfl) (fun x A=>if_neg A);exact⟨d,cl,Z,_,D⟩
theorem x6A(a b:ByteArray)(w:World):Calls prog 150 #[.string a,.string b] w fun e w'=>e=.returned (pk (minS a b) (maxS a b))/\Bw w w':=by
 have Z:=@run_min_strs prog;have D:=@run_max_strs prog;unfold pk;go_enter func150,ntmps150;go_wp2;go_returns;exact⟨rfl,(b0r).alloc (l0r _) _⟩
structure Mst(w wr:World):Prop where
 bel:Below w.heap.size w wr
 sz:w.heap.size+3<=wr.heap.size
 res:wr.heap[w.heap.size]?=some (.cells #[.map none] 101 (0,0))
 hx:wr.heap[w.heap.size+2]?=some (.cells #[.map (some (w.heap.size+1))] 101 (0,0))
 mp:MxAt wr (w.heap.size+1)
theorem Mst.below{w wr w':World}(h:Mst w wr)(Y:Bw wr w'):Mst w w':=by
 have F:=h.sz;obtain⟨c,P,y,u,Z⟩:=h.mp;exact⟨bthen h.bel Y,Nat.le_trans F Y.size,by rw[Y.block _ f6J];exact h.res,by rw[Y.block _ f6J];exact h.hx,c,P,y,by rw[Y.block _ f6J];exact u,Z⟩
theorem Mst.more{w wr:World}(h:Mst w wr){d:Array MapEntry}{cl:Nat}(C:∃c,GObj KN d cl c):Mst w (setBlock wr (w.heap.size+1) (.map d cl)):=by
 have F:=h.sz;obtain⟨c,C⟩:=C;exact⟨x3A h.bel f6J _,e1T,n7Y,m4C,c,d,cl,x3M f6J,C⟩
def MxtB(w:World)(e:Ending)(w':World):Prop:=∃r,e=.returned (.agg #[.map (some r)])/\w.heap.size<=r/\MxAt w' r/\Below w.heap.size w w'
theorem Mst.fin{w wr:World}(h:Mst w wr):(wr.setCell ⟨w.heap.size,0,none⟩ (.map (some (w.heap.size+1)))).heap[w.heap.size]?=some (.cells #[.map (some (w.heap.size+1))] 101 (0,0))/\MxtB w (.returned (.agg #[.map (some (w.heap.size+1))])) (wr.setCell ⟨w.heap.size,0,none⟩ (.map (some (w.heap.size+1)))):=by
 obtain⟨c,P,y,u,Z⟩:=h.mp;exact⟨by rw[x0c h.res];rfl,_,rfl,f6J,⟨c,P,y,by rw[x0e _ f6J];exact u,Z⟩,x0b h.bel (l0r _) _⟩
theorem z7r(w:World):∃W1 x q,w.alloc (.cells #[.map none] 101)=W1/\W1.alloc (.map #[] 0)=x/\x.alloc (.cells #[.map (some (w.heap.size+1))] 101)=q/\W1.heap.size=w.heap.size+1/\x.heap.size=w.heap.size+2/\Mst w q:=by
 refine⟨_,_,_,rfl,rfl,rfl,M7M,M7M,?_⟩;have Y:Bw w (((w.alloc (.cells #[.map none] 101)).alloc (.map #[] 0)).alloc (.cells #[.map (some (w.heap.size+1))] 101)):=(((b0r).alloc (l0r _) _).alloc M7M _).alloc P8P _;refine⟨Y,M7M,?_,?_,fun _=>none,#[],0,?_,y8Y _ _ fun _=>rfl⟩
 ·show(((w.heap.push _).push _).push _)[w.heap.size]?=_;rw[Array.getElem?_push,Array.getElem?_push,Array.getElem?_push];exact m7X
 ·show(((w.heap.push _).push _).push _)[w.heap.size+2]?=_;rw[Array.getElem?_push,Array.getElem?_push,Array.getElem?_push];simp only[Array.size_push];rw[if_pos trivial]
 ·show(((w.heap.push _).push _).push _)[w.heap.size+1]?=_;rw[Array.getElem?_push,Array.getElem?_push,Array.getElem?_push];exact v6h
structure Mbx(W:World)(g x m1:Nat)(nm ot:ByteArray)(wt:Nat):Prop where
 name:W.cell? ⟨g,5,none⟩=some (.string nm)
 other:W.cell? ⟨g,6,none⟩=some (.string ot)
 wt:W.cell? ⟨g,7,none⟩=some (.float .f64 wt)
 x0:W.cell? ⟨x,0,none⟩=some (.map (some m1))
theorem Mbx.below{W N:World}{g x u wt:Nat}{y M:ByteArray}(h:Mbx W g x u y M wt)(Y:Bw W N):Mbx N g x u y M wt :=
 ⟨u7C,M7T,t0A,w6u⟩
theorem Mbx.block{W:World}{g x u r wt:Nat}{y M:ByteArray}(h:Mbx W g x u y M wt){d:Array MapEntry}{cl:Nat}(o:Obj)(hr:W.heap[r]?=some (.map d cl)):Mbx (setBlock W r o) g x u y M wt:=by
 have k:∀S j v,W.cell? ⟨S,j,none⟩=some v->(setBlock W r o).cell? ⟨S,j,none⟩=some v:=fun S j v I=>f3z
 exact⟨k _ _ _ h.name,k _ _ _ h.other,k _ _ _ h.wt,k _ _ _ h.x0⟩
theorem x7Y(v:Value)(rs:List Rec)(w:World)(N:Rcs w v rs)(aC:∀r∈rs,r.kind=15->Sh r.name/\Sh r.other):Calls prog 97 #[v] w (MxtB w):=by
 obtain⟨W1,W2,W3,aH,aI,aJ,aM,aN,aq⟩:=z7r w;have aP:=N.1;obtain⟨ao,aG,g,_,_⟩:=N.shape
 have D:Hid (∀k W,k<rs.length->Bw w W->∃b P,v=.slice (some ⟨b,P,none⟩) rs.length aG/\RecAt W b (P+k*8) (rs.getD k Cn.none)):=fun k W hk hW=>by
  obtain⟨b,P,aO,q,_,_,hc⟩:=(N.below hW).place f6J;rw[g]at q;obtain⟨e1,e2,e3⟩:=Value.slice.inj q;refine⟨b,P,?_,hc k hk⟩;rw[g,e1]
 have Q:Hid (∀k,k<rs.length->(rs.getD k Cn.none).kind=15->Sh (rs.getD k Cn.none).name/\Sh (rs.getD k Cn.none).other):=fun k hk h=>aC _ E8Q h;have F:=O aq;have s:=y1R;clear N aC aq;subst g;go_enter func97,ntmps97;go_wp2;clear s;go_loopw[5,10] (fun _ iv wr=>∃k:Nat,iv=.int .i64 k/\k<=rs.length/\Mst w wr) (fun _ iv _=>rs.length-(intOf iv).toNat)
 case atStart=>exact⟨0,rfl,f6J,V F⟩
 case round =>
  obtain⟨k,rfl,hk,hC⟩:=hrel;clear F aH aI aJ aM aN;by_cases aB:k<rs.length
  ·obtain⟨b,P,q,hA⟩:=V D k wr aB hC.bel;obtain⟨q1,_,_⟩:=Value.slice.inj q;clear q;subst q1;have A:=V Q k aB;obtain⟨x0,x1,x2,x3,⟨va,x4,t⟩,x5,x6,x7⟩:=hA;obtain⟨aD,J,rfl,_,_⟩:=t.shape;clear D Q t;generalize rs.getD k Cn.none=r at *;obtain⟨H,ar⟩:∃H,wr.alloc (.cells #[.int .i64 r.kind,.int .i64 r.lo,.int .i64 r.hi,.int .i64 r.n,.slice aD r.to.length J,.string r.name,.string r.other,.float .f64 r.wt] 60)=H:=⟨_,rfl⟩;have aw:Bw wr H:=by rw[<- ar];exact(b0r).alloc (l0r _) _
   have R:H.heap[wr.heap.size]?=some (.cells #[.int .i64 r.kind,.int .i64 r.lo,.int .i64 r.hi,.int .i64 r.n,.slice aD r.to.length J,.string r.name,.string r.other,.float .f64 r.wt] 60 (0,0)):=by
    rw[<- ar];exact s6Q
   have af:=hC.below aw;have aS:∀W a m,(store a (.float .f64 r.wt) m).run prog W=stored prog W a (.float .f64 r.wt) m:=fun W a m=>run_store prog W a _ m rfl;obtain⟨i,z1,z2,z3,z4,z5,z6,z7⟩:=x4H R;have p:=O af;have Z:Hid (Mbx H wr.heap.size (w.heap.size+2) (w.heap.size+1) r.name r.other r.wt):=⟨z5,z6,z7,cell_of (j:=0) af.hx w8q⟩;clear hC af aw R;by_cases x:r.kind=15
   ·obtain⟨sa,sb⟩:=A x;have E:=z5t sa sb;have KE:Hid (∀W,Calls prog 150 #[.string r.name,.string r.other] W fun e w'=>e=.returned (pk (minS r.name r.other) (maxS r.name r.other))/\Bw W w'):=fun W=>x6A _ _ W;have am:Hid (∀W,Calls prog 149 #[.float .f64 r.wt] W fun e w'=>∃u n,e=.returned (.float .f64 u)/\w'=W.drewN n):=fun W=>y2R r.wt W;have ae:Hid (∀W u,MxAt W (w.heap.size+1)->∃d I,(Instr.mapUpdate 99 (.map (some (w.heap.size+1))) (pk (minS r.name r.other) (maxS r.name r.other)) (.float .f64 u)).run prog W=.ok () (setBlock W (w.heap.size+1) (.map d I))/\∃c,GObj KN d I c):=fun W u h=>y9U h E.1 E.2 _;unfold pk at KE ae;have l:Hid (Mbx H.drew wr.heap.size (w.heap.size+2) (w.heap.size+1) r.name r.other r.wt):=(V Z).below (x0i ⟨1,rfl⟩);have ai:Hid (Mst w H.drew):=(V p).below (x0i ⟨1,rfl⟩);generalize minS r.name r.other=k1,maxS r.name r.other=k2,hkd:r.kind=kd at *;have aK:(kd==15)=true:=(by rw[beq_iff_eq];exact x);clear hkd x A sa sb E Z p;go_wp2;clear x0 x1 x2 x3 x4 x5 x6 x7 i z1 z2 z3 z4 z5 z6 z7;refine wp_region_held_drew (S:=fun w'=>Mbx w' wr.heap.size (w.heap.size+2) (w.heap.size+1) r.name r.other r.wt) f4y (V l) (fun hHeld=>?_);refine tk9 0 (.pointer (some ⟨w.heap.size+2,0,none⟩)) ?_ (hy:=N5W);refine tk9 1 (.map (some (w.heap.size+1))) ?_ (hy:=N5W);refine tk9 2 (.pointer (some ⟨wr.heap.size,5,none⟩)) ?_ (hy:=N5W);refine tk9 3 (.string r.name) ?_ (hy:=N5W);refine tk9 4 (.pointer (some ⟨wr.heap.size,6,none⟩)) ?_ (hy:=N5W);refine tk9 5 (.string r.other) ?_ (hy:=N5W);refine tk9 7 (.pointer (some ⟨wr.heap.size,7,none⟩)) ?_ (hy:=N5W);refine tk9 8 (.float .f64 r.wt) ?_ (hy:=N5W);refine rd9 6 fun K hK=>?_;go_simp;refine c1m (V KE _) fun w2 ag=>?_;have T:Hid (Mbx w2 wr.heap.size (w.heap.size+2) (w.heap.size+1) r.name r.other r.wt):=(V l).below ag;have z:Hid (Mst w w2):=(V ai).below ag;clear ag;refine hK.out _ _ ?_ (fun hHeld=>?_)
    ·exact V T
    clear hK K
    try simp only[Act.put,sa9,sb9,sc9]
    refine rd9 9 fun K hK=>?_;go_simp;refine(V am _).mono ?_;rintro e3 G ⟨u3,n3,rfl,M⟩;have L:Bw w2 G:=(by rw[M];exact x0i ⟨n3,rfl⟩);clear M;have B:Hid (Mbx G wr.heap.size (w.heap.size+2) (w.heap.size+1) r.name r.other r.wt):=(V T).below L;have ab:Hid (Mst w G):=(V z).below L;obtain⟨d,I,hu,aA⟩:=V ae G u3 (V ab).mp;have aF:=O ((V ab).more aA)
    have Y:Hid (Mbx (setBlock G (w.heap.size+1) (.map d I)) wr.heap.size (w.heap.size+2) (w.heap.size+1) r.name r.other r.wt):=by
     obtain⟨_,aR,aQ,aL,_⟩:=(V ab).mp;exact(V B).block _ aL
    clear L aA;refine hK.out _ _ ?_ (fun hHeld=>?_)
    ·exact V B
    clear hK K
    try simp only[Act.put,sa9,sb9,sc9]
    refine rd9 10 fun K hK=>?_;go_simp;refine hK.out _ _ ?_ (fun hHeld=>?_)
    ·exact V Y
    clear hK K;refine wpAnyH_done f4y ?_ _;clear hHeld hu l T B Y ai z ab KE am ae;generalize setBlock G (w.heap.size+1) (.map d I)=W5 at *;go_wp2
    go_roundw
    case rel=>exact⟨k+1,g2A,f6J,V aF⟩
    case measure=>exact g7W
   ·have aK:(r.kind==15)=false:=b0f x;clear Z A x;generalize r.kind=kd at *;go_wp2
    go_roundw
    case rel=>exact⟨k+1,g2A,f6J,V p⟩
    case measure=>exact g7W
  ·obtain rfl:k=rs.length:=f6J;have hX:=hC.hx;have y0:=cell_of (j:=0) hX w8q;have F1:=hC.res;have i:=cell_of (j:=0) F1 w8q;have f0:=fun j=>x0d (j:=j) F1;obtain⟨F2,F3⟩:=hC.fin;have aj:=O F2;have y:=O F3;clear D Q hC hX F1 F2 F3;go_wp2;have X:=V aj;have az:=V y;clear aj y y0 f0 i;generalize wr.setCell ⟨w.heap.size,0,none⟩ (.map (some (w.heap.size+1)))=aT at *;have i:=cell_of (j:=0) X w8q;refine bodyPost_ret (v:=.agg #[.map (some (w.heap.size+1))]) (by simp[results,Tryz.results97,go_sem,i]) rfl az
