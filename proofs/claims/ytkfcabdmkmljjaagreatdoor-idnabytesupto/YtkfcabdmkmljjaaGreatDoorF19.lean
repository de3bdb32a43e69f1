/- Lemmas. -/
import Derived.Test.YtkfcabdmkmljjaaGreatDoorF13
import Derived.Deep.RegionHeld
import Derived.Deep.AppendLies
import Derived.Test.YtkfcabdmkmljjaaGreatDoorF20
set_option maxHeartbeats 8000000
set_option maxRecDepth 8000
namespace Go.Proofs.YtkfcabdmkmljjaaGreatDoor
open Go.Proofs.Tryz
open Go.RowKit
open Ti
section
variable{p:Prop}
theorem W5Z(h:p:=by
 have y:S≠r:=fun e=>by
  subst e;simp only[World.cell?,hr]at I;cases I
 rw[World.cell?_of_block (x0r y)];exact I):p:=h
theorem s4o(h:p:=by simp[zeroValue,typeInfo,run_program,Result.andThen,Z,D]):p:=h
theorem u6M(h:p:=by rw[x0r f6J];exact h.res):p:=h
theorem W7g(h:p:=by rw[x0r f6J];exact h.hx):p:=h
theorem E8c(h:p:=by have:=h.sz;exact f6J):p:=h
theorem e4I(h:p:=by rw[World.size_alloc];exact f6J):p:=h
theorem S6a(h:p:=by(intro w hSw;obtain⟨T,A,H,I,s4,s5⟩:=hSw;go_simp)):p:=h
theorem E3k(h:p:=by rw[World.size_alloc,World.size_alloc];exact f6J):p:=h
theorem m7X(h:p:=by simp only[Array.size_push];rw[if_neg f6J,if_neg f6J,if_pos trivial]):p:=h
theorem N6k(h:p:=by rw[List.length_append,Ti.x2g];exact hr):p:=h
theorem e0G(h:p:=by rw[x1E];exact C):p:=h
theorem g0j(h:p:=by(intro w hSw;obtain⟨T,s1,H,I⟩:=hSw;go_simp)):p:=h
theorem n5Z(h:p:=by show 0<2;exact f6J):p:=h
theorem u7D(h:p:=by rw[List.length_append];exact f6J):p:=h
theorem v6h(h:p:=by simp only[Array.size_push];rw[if_neg f6J,if_pos trivial]):p:=h
theorem w2h(h:p:=by show 1<2;exact f6J):p:=h
theorem w8q(h:p:=by show 0<1;exact f6J):p:=h
theorem T8Q(h:p:=by(intro w hSw;obtain⟨s0,s1,s2,s3,s4,s5,s6,s7⟩:=hSw;go_simp)):p:=h
end
namespace Cn
theorem x2U{g:Nat->Rec->Int}:∀(l:List Rec) (i:Nat) (r:Rec),rangesA g i (l++[r])=rangesA g i l++spoken r (g (i+l.length) r)
 | [],i,r=>by simp[rangesA]
 | x::l,i,r=>by
  rw[List.cons_append,rangesA,x2U l (i+1) r,rangesA,List.append_assoc,List.length_cons,(f6J:i+1+l.length=i+(l.length+1))]
theorem x5f{r:Rec}(h:right r=0)(G:r.kind≠15)(v:Int):(spoken r v).length<=1114112:=by
 obtain⟨A,H,I⟩:=x0q h G;unfold spoken;split
 ·simp
 ·rw[x5X]
  rename_i hc
  have b:=right_step h;have F:r.kind=4:=Decidable.byContradiction fun e=>hc (.inl e);unfold step at b;rw[if_pos F]at b;have:(r.hi-r.lo) / r.n<=r.hi-r.lo:=Int.ediv_le_self _ f6J;omega
theorem x3G{g:Nat->Rec->Int}:∀(l:List Rec) (i:Nat),(∀r∈l,right r=0/\r.kind≠15)->(rangesA g i l).length<=1114112*l.length
 | [],_,_=>by simp[rangesA]
 | r::l,i,h=>by
  rw[rangesA,List.length_append,List.length_cons];have Z:=x5f (h r M7K).1 (h r M7K).2 (g i r);have D:=x3G (g:=g) l (i+1) (fun x A=>h x (List.mem_cons_of_mem _ A));omega
end Cn
theorem y1M(r:Rec)(v:Int)(h:Cn.right r=0)(G:r.kind≠15):0<(Cn.spoken r v).length:=by
 unfold Cn.spoken;split
 ·simp
 ·rw[Cn.x5X]
  rename_i hc
  obtain⟨A,H,I⟩:=Cn.x0q h G;have B:=Cn.right_step h;have F:r.kind=4:=Decidable.byContradiction fun e=>hc (.inl e);unfold Cn.step at B;rw[if_pos F]at B;have:=Int.ediv_nonneg (a:=r.hi-r.lo) (b:=r.n) f6J f6J;omega
theorem z3N{y w2 w4:World}{P n:Value}{xs ys:List Tri.Rg}(m:Bw y w2)(A:Or4 w2 y.heap.size P xs)(hy:FitR ys)(S:xs.length+ys.length<=5000000000)(hr:w4.ownsRow y.heap.size 272 3 n (xs.length+ys.length) (Ti.rcells xs++Ti.rcells ys))(H:w2.grownBy w4 P.ownBlock):Or4 w4 y.heap.size n (xs++ys)/\Bw y w4 :=
 ⟨⟨fun r h=>by
  rcases List.mem_append.1 h with h | h
  ·exact A.1 r h
  ·exact hy r h,u7B,N6k⟩,m.grown H m.size (fun g Q=>(A.2.2.lt g Q).1)⟩
theorem z0p{w:World}{B:Nat}{v:Value}{ys:List Tri.Rg}(h:Or4 w B v ys)(F:0<ys.length):∃g cap,v=.slice (some ⟨g,0,none⟩) ys.length cap/\∀j u,(Ti.rcells ys)[j]?=some u->w.cell? ((⟨g,0,none⟩:Addr).add j)=some u:=by
 rcases h.2.2.2 with⟨_,U⟩ | ⟨g,cap,t,rfl,_⟩
 ·omega
 ·exact⟨g,cap,rfl,fun j u R=>h.2.2.cells (g:=g) rfl j u R⟩
theorem z5Y{w w':World}{b:Nat}{z lo hi n:Int}{vt:Value}{R M:ByteArray}{wt:Nat}(h:BoxAt w b z lo hi n vt R M wt)(Y:w'.heap[b]?=w.heap[b]?):BoxAt w' b z lo hi n vt R M wt:=by
 have e:∀j,w'.cell? ⟨b,j,none⟩=w.cell? ⟨b,j,none⟩:=fun j=>World.cell?_of_block Y;exact⟨by rw[e];exact h.1,by rw[e];exact h.2,by rw[e];exact h.3,by rw[e];exact h.4,by rw[e];exact h.5,by rw[e];exact h.6,by rw[e];exact h.7,by rw[e];exact h.8⟩
theorem y1S(v:Value)(rs:List Rec)(i:Int)(w:World)(hg:Glob w)(hv:Rcs w v rs)(G:I64 i)(aQ:∀r∈Cn.famOf (Cn.fam i) rs,Cn.right r=0/\r.kind≠15/\Fi (Cn.value r))(hl:(Cn.famOf (Cn.fam i) rs).length<=4096)(q:∀m:List Tri.Rg,m.Perm (Cn.rangesA (fun _ r=>Cn.value r) 1 (Cn.famOf (Cn.fam i) rs))->(m.Pairwise fun x y=>Tri.lo x<=Tri.lo y)->Tri.Val 0 m):Calls prog 94 #[v,.int .i64 i] w (x6p w (Cn.rangesA (fun _ r=>Cn.value r) 1 (Cn.famOf (Cn.fam i) rs))):=by
 obtain⟨i0,aT,aY,aZ,ba⟩:=info_parts Tryz.info272;have K1:=O (x5r v rs i w hg hv G);unfold FamB at K1;obtain⟨ao,M,aX,_,_⟩:=hv.shape;generalize Cn.famOf (Cn.fam i) rs=N at *;have L:=O aQ;have B:=O q;clear hv hg aQ q;subst aX;go_enter func94,ntmps94;go_wp2_with fail;refine(V K1).mono ?_;rintro e1 w1 ⟨v1,ps,rfl,aG,hR,aw⟩;have aU:ps.length=N.length:=(by rw[<- aG,List.length_map]);have aA:Rcs w1 v1 N:=by rw[<- aG];exact hR.rsx.rcs aw f6J
 have ar:Hid (∀k,(Cn.rangesA (fun _ r=>Cn.value r) 1 (N.take k)).length<=4563402752):=fun k=>by
  have h1:=Cn.x3G (g:=fun _ r=>Cn.value r) (N.take k) 1 (fun r hr=>⟨(V L r (List.mem_of_mem_take hr)).1,(V L r (List.mem_of_mem_take hr)).2.1⟩);have h2:(N.take k).length<=N.length:=List.length_take_le' _ _;omega
 have U:Hid (∀k,k<N.length->∃b P M,v1=.slice (some ⟨b,P,none⟩) N.length M/\RecAt w1 b (P+k*8) (N.getD k Cn.none)/\RecFit (N.getD k Cn.none)):=fun k G=>by
  obtain⟨b,P,M,he,_,_,hc⟩:=aA.place f6J;exact⟨b,P,M,he,hc k G,aA.fit G⟩
 have Z:Hid (∀k,k<N.length->Cn.rangesA (fun _ r=>Cn.value r) 1 (N.take (k+1))=Cn.rangesA (fun _ r=>Cn.value r) 1 (N.take k)++Cn.spoken (N.getD k Cn.none) (Cn.value (N.getD k Cn.none))):=fun k G=>by
  have e:N.take (k+1)=N.take k++[N.getD k Cn.none]:=by
   rw[List.take_add_one];simp[List.getD,G]
  rw[e,Cn.x2U]
 have D:Hid (∀e w',x6p w1 (Cn.rangesA (fun _ r=>Cn.value r) 1 N) e w'->x6p w (Cn.rangesA (fun _ r=>Cn.value r) 1 N) e w'):=fun e w' h=>by
  obtain⟨a,m,h1,h2,h3,h4,h5⟩:=h;exact⟨a,m,h1,h2,h3,h4.lower aw.size,bthen aw h5⟩
 obtain⟨bn,bh,aR,_,_⟩:=aA.shape;subst aR;clear K1 aG hR aA aU aw;go_wp2;go_loopw[5,7,12] (fun rv _ iv wr=>∃k:Nat,iv=.int .i64 k/\k<=N.length/\Or4 wr w1.heap.size rv (Cn.rangesA (fun _ r=>Cn.value r) 1 (N.take k))/\Bw w1 wr) (fun _ _ iv _=>N.length-(intOf iv).toNat)
 case atStart=>exact⟨0,rfl,f6J,Or4.nil _ _,b0r⟩
 case round =>
  obtain⟨k,rfl,G,F,ab⟩:=hrel;by_cases aF:k<N.length
  ·obtain⟨b,P,be,he,hA,ae⟩:=V U k aF;obtain⟨e1,e2,e3⟩:=Value.slice.inj he;clear e2 e3 he;subst e1;obtain⟨A,ay,s⟩:=V L (N.getD k Cn.none) (by simp[List.getD,aF]);have p:=O (V Z k aF);have bu:=V ar k;obtain⟨y0,y1,y2,y3,⟨va,y4,Q⟩,y5,y6,y7⟩:=hA;obtain⟨d,J,rfl,_,_⟩:=Q.shape;have hold:∀j u,w1.cell? ⟨b,P+k*8+j,none⟩=some u->wr.cell? ⟨b,P+k*8+j,none⟩=some u:=fun j u h=>(by rw[ab.cell (x0a h)];exact h);have x0:wr.cell? ⟨b,P+k*8,none⟩=_:=hold 0 _ y0;have x1:=hold 1 _ y1;have x2:=hold 2 _ y2;have x3:=hold 3 _ y3;have x4:=hold 4 _ y4;have x5:=hold 5 _ y5;have x6:=hold 6 _ y6;have x7:=hold 7 _ y7;clear hold y0 y1 y2 y3 y4 y5 y6 y7 U Z B D;generalize N.getD k Cn.none=r at *;have aS:∀W a m,(store a (.float .f64 r.wt) m).run prog W=stored prog W a (.float .f64 r.wt) m:=fun W a m=>run_store prog W a _ m rfl;obtain⟨W1,bp,aO,I⟩:=x0N wr r.kind r.lo r.hi r.n (.slice d r.to.length J) r.name r.other r.wt;have am:=O (bthen ab I);have T:Hid (∀W,Bw W1 W->BoxAt W wr.heap.size r.kind r.lo r.hi r.n (.slice d r.to.length J) r.name r.other r.wt):=fun W h=>aO.keep h;have aI:Hid (∀W,Bw W1 W->Or4 W w1.heap.size u5 (Cn.rangesA (fun _ r=>Cn.value r) 1 (N.take k))/\Bw w1 W):=fun W h=>⟨(F.below I).below h,bthen (V am) h⟩;have KV:Hid (∀W,Bw W1 W->Calls prog 146 #[recV r (.slice d r.to.length J)] W (IntB W (Cn.value r))):=fun W h=>y6Z r _ W ae (Q.below (bthen (V am) h));have KS:Hid (∀W,Bw W1 W->Calls prog 145 #[recV r (.slice d r.to.length J),.int .i64 (Cn.value r)] W (y7m W (Cn.spoken r (Cn.value r)))):=fun W h=>x7B r _ _ W ae (Q.below (bthen (V am) h)) A ay s;have aW:=y1M r (Cn.value r) A ay;have bt:=Cn.x5f A ay (Cn.value r);unfold recV at KV KS;obtain⟨z0,z1,z2,z3,z4,z5,z6,z7⟩:=aO;have aH:Hid (u5.ownBlock≠some wr.heap.size):=fun e=>(by have:=(F.2.2.lt _ e).2;exact f6J);have aJ:Hid (wr.heap.size<W1.heap.size):=x0a z0;clear F ab I ae Q A ay s L ar;generalize Cn.spoken r (Cn.value r)=ys at *;generalize Cn.value r=vv at *;generalize Cn.rangesA (fun _ r=>Cn.value r) 1 (N.take k)=xs,r.kind=kd,r.lo=lo,r.hi=hi,r.n=n at *;generalize r.name=nm,r.other=ot,r.wt=wt,r.to.length=tl at *;go_wp2;clear am x0 x1 x2 x3 x4 x5 x6 x7 z0 z1 z2 z3 z4 z5 z6 z7 aS;refine wp_region_held_drew (S:=fun w'=>BoxAt w' wr.heap.size kd lo hi n (.slice d tl J) nm ot wt) f4y (V T _ (x0i ⟨1,rfl⟩)) (fun hHeld=>?_);refine tk9 0 u5 ?_;refine tk9 1 (.agg #[.int .i64 kd,.int .i64 lo,.int .i64 hi,.int .i64 n,.slice d tl J,.string nm,.string ot,.float .f64 wt]) ?_ (hy:=T8Q);refine tk9 2 (.agg #[.int .i64 kd,.int .i64 lo,.int .i64 hi,.int .i64 n,.slice d tl J,.string nm,.string ot,.float .f64 wt]) ?_ (hy:=T8Q);refine rd9 3 fun K hK=>?_;go_simp;refine c1m (V KV _ (x0i ⟨1,rfl⟩)) fun w2 t=>?_;have X:=O (bthen (x0i ⟨1,rfl⟩) t:Bw W1 w2);clear t;refine hK.out _ _ ?_ (fun hHeld=>?_)
   ·exact V T _ (V X)
   clear hK K
   try simp only[Act.put,sa9,sb9,sc9]
   refine rd9 4 fun K hK=>?_;go_simp;refine(V KS _ (V X)).mono ?_;rintro e3 w3 ⟨v3,rfl,E,aN⟩;have z:=bthen (V X) aN;obtain⟨g3,aK,rfl,c⟩:=z0p E aW;have aD:=V aI _ z;have bj:=aD.2.size;have l:=O aD;have Y:=O E.1;have aC:=O c;have aB:=O (Ti.x4T ys);have aq:=O z;clear E aN z aD c;refine hK.out _ _ ?_ (fun hHeld=>?_)
   ·exact V T _ (V aq)
   clear hK K
   try simp only[Act.put,sa9,sb9,sc9]
   refine rd9 5 fun K hK=>?_;refine step_append_lies _ (by rfl) (.tmp 16) (.tmp 20) 230 (by rfl) w1.heap.size 272 i0 (.agg #[.int .i64 0,.int .i64 0,.int .i64 0]) 3 24 underlying230 aT aY aZ ba rfl f6J u5 xs.length (Ti.rcells xs) (by rfl) (V l).1.2.2 ⟨g3,0,none⟩ ys.length aK (Ti.rcells ys) (by rfl) (by rw[Ti.x1I]) (V aC) (V aB) f6J T7X f6J f6J w3.heap.size rfl ?_;intro gg f w8 aj C aM aP;have H:=z5Y (V T _ (V aq)) (C.block wr.heap.size (Nat.lt_of_lt_of_le (V aJ) (V aq).size) (fun e=>V aH e.symm));have R:=z3N (V l).2 (V l).1 (V Y) f6J aj C;rw[<- V p]at R;have HR:=O R;clear R aj C aM;refine hK.out _ _ ?_ (fun hHeld=>?_)
   ·exact H
   clear hK K H
   try simp only[Act.put,sa9,sb9,sc9]
   refine tk9 6 (.slice (some ⟨gg,0,none⟩) (xs.length+ys.length) f) ?_;refine wpAnyH_done f4y ?_ _;clear hHeld l Y aC aB aI T KV KS p X aq aH aJ aP;go_wp2
   go_roundw
   case rel=>exact⟨k+1,g2C,f6J,(V HR).1,(V HR).2⟩
   case measure=>exact g7W
  ·obtain rfl:k=N.length:=f6J;rw[List.take_of_length_le (l0r _)]at F;have KB:=O (y7I w1 wr _ _ ab F (by have:=V ar N.length;rw[List.take_of_length_le (l0r _)]at this;exact f6J) (V B));obtain⟨ro,bm,aV,_,_⟩:=F.sr.shape;subst aV;clear F ab U Z L ar B;go_wp2_with fail;refine(V KB).mono ?_;intro e w9 aL;have h9:=V D e w9 aL;obtain⟨a,m,rfl,q2,q3,q4,q5⟩:=h9;have HF:x6p w (Cn.rangesA (fun _ r=>Cn.value r) 1 N) (.returned (.pointer (some a))) w9:=⟨a,m,rfl,q2,q3,q4,q5⟩;clear KB aL D q2 q3 q4 q5;exact w0a
open Ti
def SpkB(w:World)(fs:List Rec)(e:Ending)(w':World):Prop:=∃a m vl ps,e=.returned (.agg #[.pointer (some a),vl])/\m.Perm (Cn.rangesA (fun i _=>(i:Int)) 1 fs)/\(m.Pairwise fun x y=>Tri.lo x<=Tri.lo y)/\T4 w' w.heap.size (.pointer (some a)) m 0/\Rown w' w.heap.size vl ps/\ps.map (·.1)=Cn.none::fs/\Below w.heap.size w w'
structure Spst(w w1 wr:World)(rv lv:Value)(xs:List Tri.Rg)(ps:List (Rec×Value)):Prop where
 bel:Below w.heap.size w wr
 sz:w1.heap.size<=wr.heap.size
 s1:w.heap.size+2<=w1.heap.size
 old:∀g,g<w1.heap.size->g≠w.heap.size+1->wr.heap[g]?=w1.heap[g]?
 res:w1.heap[w.heap.size]?=some (.cells #[.pointer none,.slice none 0 0] 88 (0,0))
 rng:Or4 wr w1.heap.size rv xs
 rcs:Rown wr w.heap.size lv ps
 lvb:∀g,lv.ownBlock=some g->g=w.heap.size+1\/w1.heap.size<=g
section
variable {w w1 wr w':World} {rv lv v' vt:Value} {xs ys:List Tri.Rg} {ps:List (Rec×Value)} {r:Rec} {o:Obj}
theorem Spst.below(h:Spst w w1 wr rv lv xs ps)(Y:Bw wr w'):Spst w w1 w' rv lv xs ps :=
 ⟨bthen h.bel Y,Nat.le_trans h.sz Y.size,h.s1,fun g Z D=>by rw[Y.block g E8c];exact h.old g Z D,h.res,h.rng.below Y,⟨x0y h.rcs.1 fun g H=>Y.block g (h.rcs.1.lt g H).2,fun p s=>(h.rcs.2 p s).below Y⟩,h.lvb⟩
theorem Spst.keep(h:Spst w w1 wr rv lv xs ps){B}(L:wr.heap.size<=w'.heap.size)(Y:Bw w w')(m:w1.heap.size<=B)(G:∀g,g<wr.heap.size->g≠B->w'.heap[g]?=wr.heap[g]?)(hr:rv.ownBlock≠some B)(S:lv.ownBlock≠some B)(s:∀p∈ps,p.2.ownBlock≠some B):Spst w w1 w' rv lv xs ps :=
 ⟨Y,Nat.le_trans h.sz L,h.s1,fun g Z D=>by rw[G g E8c f6J];exact h.old g Z D,h.res,⟨h.rng.1,h.rng.2.1,x0y h.rng.2.2 fun g H=>G g (h.rng.2.2.lt g H).2 (fun e=>hr (by rw[H,e]))⟩,
  ⟨x0y h.rcs.1 fun g H=>G g (h.rcs.1.lt g H).2 (fun e=>S (by rw[H,e])),fun p f=>(h.rcs.2 p f).keep fun g H=>G g ((h.rcs.2 p f).2.2.lt g H).2 (fun e=>s p f (by rw[H,e]))⟩,h.lvb⟩
theorem Spst.ranges(h:Spst w w1 wr rv lv xs ps)(hy:FitR ys)(S:xs.length+ys.length<=5000000000)(hr:w'.ownsRow w1.heap.size 272 3 v' (xs.length+ys.length) (Ti.rcells xs++Ti.rcells ys))(H:wr.grownBy w' rv.ownBlock):Spst w w1 w' v' lv (xs++ys) ps:=by
 have k:∀g,g<wr.heap.size->rv.ownBlock≠some g->w'.heap[g]?=wr.heap[g]?:=fun g Z D=>H.block g Z (fun e=>D e.symm);have E:∀g,rv.ownBlock=some g->w1.heap.size<=g:=fun g Q=>(h.rng.2.2.lt g Q).1;refine⟨h.bel.grown H h.bel.size (fun g Q=>Nat.le_trans (by have:=h.s1;exact f6J) (E g Q)),Nat.le_trans h.sz H.size,h.s1,fun g Z D=>?_,h.res,⟨fun x hx=>?_,u7D,N6k⟩,⟨x0y h.rcs.1 fun g Q=>k g (h.rcs.1.lt g Q).2 (x0Q h.rcs.1 h.rng.2.2 e8N Q),fun p s=>?_⟩,h.lvb⟩
 ·rw[k g E8c (fun e=>by have:=E g e;exact f6J)];exact h.old g Z D
 ·rcases List.mem_append.1 hx with hx | hx
  ·exact h.rng.1 x hx
  ·exact hy x hx
 ·have n:=h.rcs.2 p s;exact n.keep fun g Q=>k g (n.2.2.lt g Q).2 (x0Q n.2.2 h.rng.2.2 e8N Q)
theorem Spst.more(h:Spst w w1 wr rv lv xs ps)(K:Ok .i32 21 wr w.heap.size vt r.to){gg cap}(hr:w'.ownsRow w.heap.size 60 8 (.slice (some ⟨gg,0,none⟩) (ps.length+1) cap) (ps.length+1) (rcells ps++x0C (r,vt)))(H:(wr.alloc o).grownBy w' lv.ownBlock)(U:lv.ownBlock=some gg\/gg=wr.heap.size+1):Spst w w1 w' rv (.slice (some ⟨gg,0,none⟩) (ps.length+1) cap) xs (ps++[(r,vt)]):=by
 have L:=h.bel.size;have f:=h.sz;have N:=h.s1
 have k:∀g,g<wr.heap.size->lv.ownBlock≠some g->w'.heap[g]?=wr.heap[g]?:=fun g Z D=>by
  rw[H.block g e4I (fun e=>D e.symm)];exact((Below.refl wr.heap.size wr).alloc (l0r _) o).block g Z
 refine⟨(h.bel.alloc L o).grown H e4I (fun g Q=>(h.rcs.1.lt g Q).1),Nat.le_trans f (by have:=H.size;rw[World.size_alloc]at this;exact f6J),N,fun g Z D=>?_,h.res,⟨h.rng.1,h.rng.2.1,x0y h.rng.2.2 fun g Q=>k g (h.rng.2.2.lt g Q).2 (x0Q h.rng.2.2 h.rcs.1 e8N Q)⟩,⟨?_,fun p hp=>?_⟩,fun g Q=>?_⟩
 ·rw[k g f6J (fun e=>by rcases h.lvb g e with h3 | h3<;>omega)];exact h.old g Z D
 ·rw[x3H]at hr;simpa using hr
 ·rcases List.mem_append.1 hp with hp | hp
  ·have n:=h.rcs.2 p hp;exact n.keep fun g Q=>k g (n.2.2.lt g Q).2 (x0Q n.2.2 h.rcs.1 e8N Q)
  ·simp only[List.mem_singleton]at hp;subst hp;exact K.keep fun g Q=>k g (K.2.2.lt g Q).2 (x0Q K.2.2 h.rcs.1 e8N Q)
 ·simp only[Value.ownBlock,Option.some.injEq]at Q;subst Q;rcases U with h3 | h3
  ·exact h.lvb _ h3
  ·exact e5w
end
theorem z8a w:∃W1 M,w.alloc (.cells #[.pointer none,.slice none 0 0] 88)=W1/\W1.alloc (.cells #[.int .i64 0,.int .i64 0,.int .i64 0,.int .i64 0,.slice none 0 0,.string ⟨#[]⟩,.string ⟨#[]⟩,.float .f64 0] 60)=M/\Bw w M/\W1.heap.size=w.heap.size+1/\M.heap.size=w.heap.size+2/\∀w1,Bw M w1->Spst w w1 w1 (.slice none 0 0) (.slice (some ⟨w.heap.size+1,0,none⟩) 1 1) [] [(Cn.none,.slice none 0 0)]:=by
 refine⟨_,_,rfl,rfl,((b0r).alloc (l0r _) _).alloc M7M _,World.size_alloc _ _,by rw[World.size_alloc,World.size_alloc],fun w1 Y=>?_⟩;have L:=Y.size;rw[World.size_alloc,World.size_alloc]at L;have f:Bw w ((w.alloc (.cells #[.pointer none,.slice none 0 0] 88)).alloc (.cells #[.int .i64 0,.int .i64 0,.int .i64 0,.int .i64 0,.slice none 0 0,.string ⟨#[]⟩,.string ⟨#[]⟩,.float .f64 0] 60)):=((b0r).alloc (l0r _) _).alloc M7M _;refine⟨bthen f Y,l0r _,f6J,fun g _ _=>rfl,?_,Or4.nil _ _,⟨⟨rfl,.inr ⟨w.heap.size+1,1,#[.int .i64 0,.int .i64 0,.int .i64 0,.int .i64 0,.slice none 0 0,.string ⟨#[]⟩,.string ⟨#[]⟩,.float .f64 0],rfl,f6J,?_,l0r _,T7W,rfl,rfl⟩⟩,fun p s=>?_⟩,fun g H=>?_⟩
 ·rw[Y.block _ E3k];exact n9Y
 ·rw[Y.block _ E3k];show((w.heap.push _).push _)[w.heap.size+1]?=_;rw[Array.getElem?_push,if_pos M7M]
 ·simp only[List.mem_singleton]at s;subst s;exact Ok.nil _ _ _ _
 ·simp only[Value.ownBlock,Option.some.injEq]at H;exact .inl H.symm
theorem q0q(k:Nat) z(h:[Value.int .i64 0,.int .i64 0,.int .i64 0,.int .i64 0,.slice none 0 0,.string ⟨#[]⟩,.string ⟨#[]⟩,.float .f64 0][k]?=some (.int .i32 z)):False:=by grind
theorem q0R{w1 W B}(m:w1.heap[B]?=some (.cells #[.int .i64 0,.int .i64 0,.int .i64 0,.int .i64 0,.slice none 0 0,.string ⟨#[]⟩,.string ⟨#[]⟩,.float .f64 0] 60 (0,0)))(G:∀g,g<w1.heap.size->g≠B->W.heap[g]?=w1.heap[g]?){va zs}(h:Sk .i32 w1 va zs):Sk .i32 W va zs:=by
 obtain⟨Z,D,J⟩:=h;refine⟨Z,D,?_⟩;rcases J with J | ⟨b,P,M,e,A,Q,u⟩
 ·exact .inl J
 ·refine .inr ⟨b,P,M,e,A,Q,fun i hi=>?_⟩;have I:=u i hi
  have y:b≠B:=fun e=>by
   subst e;rw[x9D .i32 zs i w3y]at I;simp only[World.cell?,m]at I;exact q0q _ _ v0B
  rw[World.cell?_of_block (G b (x0a I) y)];exact I
theorem z3O{w:World}{B e C n:Nat}{v us}(h:w.ownsRow B e C v n us){g}(H:v.ownBlock=some g):∃t,w.heap[g]?=some (.cells t e (0,0)):=by
 rcases h.2 with⟨rfl,_⟩ | ⟨S,M,t,rfl,_,X,_⟩
 ·cases H
 ·simp only[Value.ownBlock,Option.some.injEq]at H;subst H;exact⟨t,X⟩
theorem z1m{w:World}{B e Y C n g:Nat}{v us cur}(h:w.ownsRow B e C v n us)(X:w.heap[g]?=some (.cells cur Y (0,0)))(y:e≠Y):v.ownBlock≠some g:=fun H=>by
 obtain⟨c,I⟩:=z3O h H;rw[X]at I;simp only[Option.some.injEq,Obj.cells.injEq]at I;exact y I.2.1.symm
theorem x4F{w:World}{g c0 c1 c2 c3 c4 c5 c6 c7}(h:w.heap[g]?=some (.cells #[c0,c1,c2,c3,c4,c5,c6,c7] 60 (0,0))):w.cell? ⟨g,0,none⟩=some c0/\w.cell? ⟨g,1,none⟩=some c1/\w.cell? ⟨g,2,none⟩=some c2/\w.cell? ⟨g,3,none⟩=some c3/\w.cell? ⟨g,4,none⟩=some c4/\w.cell? ⟨g,5,none⟩=some c5/\w.cell? ⟨g,6,none⟩=some c6/\w.cell? ⟨g,7,none⟩=some c7 :=
 ⟨cell_of (j:=0) h (by show 0<8;exact f6J),cell_of (j:=1) h (by show 1<8;exact f6J),cell_of (j:=2) h (by show 2<8;exact f6J),cell_of (j:=3) h (by show 3<8;exact f6J),cell_of (j:=4) h (by show 4<8;exact f6J),cell_of (j:=5) h (by show 5<8;exact f6J),cell_of (j:=6) h (by show 6<8;exact f6J),cell_of (j:=7) h (by show 7<8;exact f6J)⟩
def y7f(w:World)(v:Value)(xs:List Tri.Rg)(e:Ending)(w':World):Prop:=∃a m,e=.returned (.pointer (some a))/\m.Perm xs/\(m.Pairwise fun x y=>Tri.lo x<=Tri.lo y)/\T4 w' w.heap.size (.pointer (some a)) m 0/\w.grownBy w' v.ownBlock
theorem y5H{a b c:World}{row}(h:a.grownBy b row)(k:Bw b c):a.grownBy c row:=by
 refine⟨k.os.trans h.os,k.tape.trans h.tape,k.output.trans h.output,Nat.le_trans h.size k.size,fun g Z D=>?_⟩;rw[k.block g (Nat.lt_of_lt_of_le Z h.size)];exact h.block g Z D
theorem y5d B w v(xs:List Tri.Rg)(h:Or4 w B v xs)(S:xs.length<=5000000000)(N:∀m:List Tri.Rg,m.Perm xs->(m.Pairwise fun x y=>Tri.lo x<=Tri.lo y)->Tri.Val 0 m):Calls prog 147 #[v] w (y7f w v xs):=by
 have l:=O (y1K w B v xs h S);have R:=O N;obtain⟨J,M,rfl,_,_⟩:=h.sr.shape;go_enter func147,ntmps147;go_wp2_with fail;refine(V l).mono ?_;rintro P w1 ⟨rfl,ys,s,A,p,H⟩;have q:=V R ys s A;have j:=O (z4S _ ys 0 w1 p ⟨f6J,f6J⟩);have n:(Tri.check 0 ys).2=0:=Tri.x3X.2 ⟨q,f6J,f6J⟩;have E:=O n;have Z:=O s;have D:=O A;have C:=O H;go_wp2_with fail;refine(V j).mono ?_;rintro z u ⟨t,⟨_,a,rfl,I⟩ | ⟨X,_⟩⟩
 ·have T:y7f w (.slice J xs.length M) xs (.returned (.pointer (some a))) u:=⟨a,ys,rfl,V Z,V D,I.lower (V C).size,y5H (V C) t⟩;exact U7G
 ·exact absurd (V E) X
theorem Spst.fin{w w1 wr w9 rv lv}{xs:List Tri.Rg}{ps:List (Rec×Value)}(h:Spst w w1 wr rv lv xs ps)(H:wr.grownBy w9 rv.ownBlock){a}{m:List Tri.Rg}(I:T4 w9 wr.heap.size (.pointer (some a)) m 0) :
  w9.heap[w.heap.size]?=some (.cells #[.pointer none,.slice none 0 0] 88 (0,0)) /\
  ((w9.setCell ⟨w.heap.size,0,none⟩ (.pointer (some a))).setCell ⟨w.heap.size,1,none⟩ lv).heap[w.heap.size]?=some (.cells #[.pointer (some a),lv] 88 (0,0)) /\
  T4 ((w9.setCell ⟨w.heap.size,0,none⟩ (.pointer (some a))).setCell ⟨w.heap.size,1,none⟩ lv) w.heap.size (.pointer (some a)) m 0/\Rown ((w9.setCell ⟨w.heap.size,0,none⟩ (.pointer (some a))).setCell ⟨w.heap.size,1,none⟩ lv) w.heap.size lv ps /\
  Bw w ((w9.setCell ⟨w.heap.size,0,none⟩ (.pointer (some a))).setCell ⟨w.heap.size,1,none⟩ lv):=by
 have A:=h.s1;have C:=h.sz;have k:∀g,g<wr.heap.size->rv.ownBlock≠some g->w9.heap[g]?=wr.heap[g]?:=fun g Z D=>H.block g Z (fun e=>D e.symm);have E:∀g,rv.ownBlock=some g->w1.heap.size<=g:=fun g Q=>(h.rng.2.2.lt g Q).1
 have x:w9.heap[w.heap.size]?=some (.cells #[.pointer none,.slice none 0 0] 88 (0,0)):=by
  rw[k _ f6J (fun e=>by have:=E _ e;exact f6J),h.old _ f6J f6J];exact h.res
 have F:Rown w9 w.heap.size lv ps:=⟨x0y h.rcs.1 fun g Q=>k g (h.rcs.1.lt g Q).2 (x0Q h.rcs.1 h.rng.2.2 e8N Q),fun p s=>(h.rcs.2 p s).keep fun g Q=>k g ((h.rcs.2 p s).2.2.lt g Q).2 (x0Q (h.rcs.2 p s).2.2 h.rng.2.2 e8N Q)⟩;have M:∀g,g≠w.heap.size->((w9.setCell ⟨w.heap.size,0,none⟩ (.pointer (some a))).setCell ⟨w.heap.size,1,none⟩ lv).heap[g]?=w9.heap[g]?:=fun g y=>(by rw[x0e _ y,x0e _ y]);have B:Bw w w9:=h.bel.grown H h.bel.size (fun g Q=>by have:=E g Q;exact f6J);refine⟨x,?_,?_,⟨x0y F.1 fun g Q=>M g (fun e=>z1m F.1 x e8N (by rw[Q,e])),fun p s=>(F.2 p s).keep fun g Q=>M g (fun e=>z1m (F.2 p s).2.2 x e8N (by rw[Q,e]))⟩,x0b (x0b B (l0r _) _) (l0r _) _⟩
 ·rw[x0c (x0c x _)];rfl
 ·exact T4.lower (I.keep (by rw[x0Z,x0Z];exact l0r _) fun g Z _=>M g f6J) f6J
open Go.RowKit Go.MapKept Go.WideMaps
open Go.ChangeMaps (setBlock)
theorem x3L{w b o}(h:b<w.heap.size):(setBlock w b o).heap[b]?=some o:=by
 show(w.heap.setIfInBounds b o)[b]?=_;simp[h]
theorem x0r{w b g o}(h:g≠b):(setBlock w b o).heap[g]?=w.heap[g]?:=by
 show(w.heap.setIfInBounds b o)[g]?=_;simp[Ne.symm h]
theorem x1E w b o:(setBlock w b o).heap.size=w.heap.size:=by
 show(w.heap.setIfInBounds b o).size=_;simp
theorem x3B{B a w}(h:Below B a w){b}(Y:B<=b) o:Below B a (setBlock w b o):=by
 refine⟨h.os,h.tape,h.output,?_,fun g H=>?_⟩
 ·rw[x1E];exact h.size
 ·rw[x0r f6J];exact h.block g H
structure Cst(w wr:World)(lp ls:List Rec):Prop where
 bel:Below w.heap.size w wr
 sz:w.heap.size+4<=wr.heap.size
 res:wr.heap[w.heap.size]?=some (.cells #[.map none,.map none] 98 (0,0))
 hx:wr.heap[w.heap.size+3]?=some (.cells #[.map (some (w.heap.size+1)),.map (some (w.heap.size+2))] 98 (0,0))
 mp:GAt KP wr (w.heap.size+1) (x3p lp)
 ms:GAt KR wr (w.heap.size+2) (secC ls)
section
variable {w wr w':World} {lp ls lp' ls':List Rec}
theorem Cst.below(h:Cst w wr lp ls)(Y:Bw wr w'):Cst w w' lp ls:=by
 have C:=h.sz;obtain⟨P,g,l,L⟩:=h.mp;obtain⟨z,Q,A,H⟩:=h.ms;exact⟨bthen h.bel Y,Nat.le_trans C Y.size,by rw[Y.block _ f6J];exact h.res,by rw[Y.block _ f6J];exact h.hx,⟨P,g,by rw[Y.block _ f6J];exact l,L⟩,⟨z,Q,by rw[Y.block _ f6J];exact A,H⟩⟩
theorem Cst.pair(h:Cst w wr lp ls){p:Array MapEntry}{cl}(H:GObj KP p cl (x3p lp')):Cst w (setBlock wr (w.heap.size+1) (.map p cl)) lp' ls:=by
 have C:=h.sz;obtain⟨z,Q,A,B⟩:=h.ms;exact⟨x3B h.bel f6J _,e0G,u6M,W7g,⟨p,cl,x3L f6J,H⟩,⟨z,Q,by rw[x0r f6J];exact A,B⟩⟩
theorem Cst.second(h:Cst w wr lp ls){p:Array MapEntry}{cl}(H:GObj KR p cl (secC ls')):Cst w (setBlock wr (w.heap.size+2) (.map p cl)) lp ls':=by
 have C:=h.sz;obtain⟨z,Q,A,B⟩:=h.mp;exact⟨x3B h.bel f6J _,e0G,u6M,W7g,⟨z,Q,by rw[x0r f6J];exact A,B⟩,⟨p,cl,x3L f6J,H⟩⟩
def CmpB(w:World)(rs:List Rec)(e:Ending)(w':World):Prop:=∃r1 r2,e=.returned (.agg #[.map (some r1),.map (some r2)])/\w.heap.size<=r1/\w.heap.size<=r2/\GAt KP w' r1 (x3p rs)/\GAt KR w' r2 (secC rs)/\Below w.heap.size w w'
theorem Cst.fin(h:Cst w wr lp lp):((wr.setCell ⟨w.heap.size,0,none⟩ (.map (some (w.heap.size+1)))).setCell ⟨w.heap.size,1,none⟩ (.map (some (w.heap.size+2)))).heap[w.heap.size]?=some (.cells #[.map (some (w.heap.size+1)),.map (some (w.heap.size+2))] 98 (0,0)) /\
  CmpB w lp (.returned (.agg #[.map (some (w.heap.size+1)),.map (some (w.heap.size+2))])) ((wr.setCell ⟨w.heap.size,0,none⟩ (.map (some (w.heap.size+1)))).setCell ⟨w.heap.size,1,none⟩ (.map (some (w.heap.size+2)))):=by
 have C:=h.sz;have M:∀g,g≠w.heap.size->((wr.setCell ⟨w.heap.size,0,none⟩ (.map (some (w.heap.size+1)))).setCell ⟨w.heap.size,1,none⟩ (.map (some (w.heap.size+2)))).heap[g]?=wr.heap[g]?:=fun g y=>(by rw[x0e _ y,x0e _ y]);obtain⟨P,B,l,L⟩:=h.mp;obtain⟨z,Q,A,H⟩:=h.ms;refine⟨by rw[x0c (x0c h.res _)];rfl,_,_,rfl,f6J,f6J,⟨P,B,by rw[M _ f6J];exact l,L⟩,⟨z,Q,by rw[M _ f6J];exact A,H⟩,x0b (x0b h.bel (l0r _) _) (l0r _) _⟩
end
theorem z6j w:∃W1 M T n,w.alloc (.cells #[.map none,.map none] 98)=W1/\W1.alloc (.map #[] 0)=M/\M.alloc (.map #[] 0)=T/\T.alloc (.cells #[.map (some (w.heap.size+1)),.map (some (w.heap.size+2))] 98)=n/\W1.heap.size=w.heap.size+1/\M.heap.size=w.heap.size+2/\T.heap.size=w.heap.size+3/\Cst w n [] []:=by
 refine⟨_,_,_,_,rfl,rfl,rfl,rfl,M7M,M7M,M7M,?_⟩;have Y:Bw w ((((w.alloc (.cells #[.map none,.map none] 98)).alloc (.map #[] 0)).alloc (.map #[] 0)).alloc (.cells #[.map (some (w.heap.size+1)),.map (some (w.heap.size+2))] 98)):=((((b0r).alloc (l0r _) _).alloc M7M _).alloc P8P _).alloc P8P _;refine⟨Y,M7M,?_,?_,⟨#[],0,?_,y8X _ _ z0t⟩,⟨#[],0,?_,y8X _ _ z4n⟩⟩
 ·show((((w.heap.push _).push _).push _).push _)[w.heap.size]?=_;rw[Array.getElem?_push,Array.getElem?_push,Array.getElem?_push,Array.getElem?_push];simp only[Array.size_push];rw[if_neg f6J,if_neg f6J,if_neg f6J,if_pos trivial]
 ·show((((w.heap.push _).push _).push _).push _)[w.heap.size+3]?=_;rw[Array.getElem?_push,Array.getElem?_push,Array.getElem?_push,Array.getElem?_push];simp only[Array.size_push];rw[if_pos trivial]
 ·show((((w.heap.push _).push _).push _).push _)[w.heap.size+1]?=_;rw[Array.getElem?_push,Array.getElem?_push,Array.getElem?_push,Array.getElem?_push];exact m7X
 ·show((((w.heap.push _).push _).push _).push _)[w.heap.size+2]?=_;rw[Array.getElem?_push,Array.getElem?_push,Array.getElem?_push,Array.getElem?_push];exact v6h
open Go.RowKit Go.MapKept Go.WideMaps
open Go.ChangeMaps (setBlock)
structure Cbx(W:World)(g x m1 m2 b off:Nat)(lo p q:Int)(vt:Value):Prop where
 lo:W.cell? ⟨g,1,none⟩=some (.int .i64 lo)
 lst:W.cell? ⟨g,4,none⟩=some vt
 x0:W.cell? ⟨x,0,none⟩=some (.map (some m1))
 x1:W.cell? ⟨x,1,none⟩=some (.map (some m2))
 a:W.cell? ⟨b,off,none⟩=some (.int .i32 p)
 b:W.cell? ⟨b,off+1,none⟩=some (.int .i32 q)
theorem Cbx.block{W:World}{g x l L b off r:Nat}{lo p q:Int}{vt:Value}(h:Cbx W g x l L b off lo p q vt){A:Array MapEntry}{cl:Nat}(o:Obj)(hr:W.heap[r]?=some (.map A cl)):Cbx (setBlock W r o) g x l L b off lo p q vt:=by
 have k:∀S j v,W.cell? ⟨S,j,none⟩=some v->(setBlock W r o).cell? ⟨S,j,none⟩=some v:=fun S j v I=>W5Z
 exact⟨k _ _ _ h.lo,k _ _ _ h.lst,k _ _ _ h.x0,k _ _ _ h.x1,k _ _ _ h.a,k _ _ _ h.b⟩
theorem Cbx.drew{W:World}{g x l L b off:Nat}{lo p q:Int}{vt:Value}(h:Cbx W g x l L b off lo p q vt):Cbx W.drew g x l L b off lo p q vt:=⟨h.lo,h.lst,h.x0,h.x1,h.a,h.b⟩
theorem y1P(t:TypeId)(W:World):(Instr.makeMap t none).run prog W=.ok (.map (some W.heap.size)) (W.alloc (.map #[] 0)):=by
 simp[Instr.makeMap,Result.andThen]
theorem z4K(w:World):(zeroValue 21).run prog w=.ok (.int .i32 0) w:=by
 obtain⟨i,Z,D,_,_⟩:=info_parts Tryz.info21;exact s4o
theorem Tryz.info93:(prog.info? 3).map (fun i=>(i.zero,i.size,i.bytes))=some (some (.int .i64 0),1,8):=f4x
theorem z4L(w:World):(zeroValue 3).run prog w=.ok (.int .i64 0) w:=by
 obtain⟨i,Z,D,_,_⟩:=info_parts Tryz.info93;exact s4o
theorem z4m(l:List Rec)(b:Int):(secC l (.int .i32 b)).getD (.int .i64 0)=.int .i64 (Cn.secOf l b:Nat):=by
 show(if Cn.secOf l b=0 then none else some (Value.int .i64 (Cn.secOf l b:Nat))).getD _=_;by_cases h:Cn.secOf l b=0
 ·rw[if_pos h,h];rfl
 ·rw[if_neg h];rfl
theorem x4a(v:Value)(rs:List Rec)(w:World)(hv:Rcs w v rs)(aP:∀r∈rs,r.kind=7->r.to.length=2/\0<=r.lo/\r.lo<=1114111)(hl:rs.length<=4096):Calls prog 96 #[v] w (CmpB w rs):=by
 obtain⟨W1,W2,W3,W4,ba,be,bh,bj,bp,bt,bG,aL⟩:=z6j w;have bA:=hv.1;obtain⟨ao,aX,g,_,_⟩:=hv.shape
 have U:Hid (∀k W,k<rs.length->Bw w W->∃b P,v=.slice (some ⟨b,P,none⟩) rs.length aX/\RecAt W b (P+k*8) (rs.getD k Cn.none)/\RecFit (rs.getD k Cn.none)):=fun k W G hW=>by
  obtain⟨b,P,bw,s,_,_,hc⟩:=(hv.below hW).place f6J;rw[g]at s;obtain⟨e1,e2,e3⟩:=Value.slice.inj s;refine⟨b,P,?_,hc k G,(hv.below hW).fit G⟩;rw[g,e1]
 have Z:Hid (∀k,k<rs.length->rs.take (k+1)=rs.take k++[rs.getD k Cn.none]/\rs.getD k Cn.none∈rs):=fun k G=>by
  refine⟨?_,?_⟩
  ·rw[List.take_add_one];simp[List.getD,G]
  ·simp[List.getD,G]
 have aw:=O aP;have aH:=O aL;clear hv aP aL;subst g;have bn:=y1P;go_enter func96,ntmps96;go_wp2;clear bn;go_loopw[5,11] (fun _ iv wr=>∃k:Nat,iv=.int .i64 k/\k<=rs.length/\Cst w wr (rs.take k) (rs.take k)) (fun _ iv _=>rs.length-(intOf iv).toNat)
 case atStart=>exact⟨0,rfl,f6J,V aH⟩
 case round =>
  obtain⟨k,rfl,G,l⟩:=hrel;clear aH ba be bh bj bp bt;by_cases aO:k<rs.length
  ·obtain⟨b,P,s,hA,am⟩:=V U k wr aO l.bel;obtain⟨q1,_,_⟩:=Value.slice.inj s;clear s;subst q1;obtain⟨aK,f⟩:=V Z k aO;have aC:=V aw _ f;obtain⟨x0,x1,x2,x3,⟨va,x4,aG⟩,x5,x6,x7⟩:=hA;obtain⟨aT,J,rfl,_,_⟩:=aG.shape;clear U Z aw f;generalize rs.getD k Cn.none=r at *;obtain⟨V1,E⟩:∃V1,wr.alloc (.cells #[.int .i64 r.kind,.int .i64 r.lo,.int .i64 r.hi,.int .i64 r.n,.slice aT r.to.length J,.string r.name,.string r.other,.float .f64 r.wt] 60)=V1:=⟨_,rfl⟩;have aB:Bw wr V1:=by rw[<- E];exact(b0r).alloc (l0r _) _
   have F:V1.heap[wr.heap.size]?=some (.cells #[.int .i64 r.kind,.int .i64 r.lo,.int .i64 r.hi,.int .i64 r.n,.slice aT r.to.length J,.string r.name,.string r.other,.float .f64 r.wt] 60 (0,0)):=by
    rw[<- E];exact s6P
   have aM:=l.below aB;have bF:∀W a m,(store a (.float .f64 r.wt) m).run prog W=stored prog W a (.float .f64 r.wt) m:=fun W a m=>run_store prog W a _ m rfl;obtain⟨z0,C,z2,z3,z4,z5,z6,z7⟩:=x4F F;have B:=O aM;have c:=O (aG.below aB);have bE:=am.lo;clear l aM aG aB F am;by_cases y:r.kind=7
   ·obtain⟨t2,l0,l1⟩:=aC y;have aR:Rune (r.to.getD 0 0):=x0V (V c) f6J;have aS:Rune (r.to.getD 1 0):=x0V (V c) f6J
    have ae:Hid (x3p (rs.take k++[r]) (pk2 (r.to.getD 0 0) (r.to.getD 1 0))=some (.int .i32 r.lo)):=by
     show x3p (rs.take k++[r]) (pk2 (r.to.getD 0 0) (r.to.getD 1 0))=_;have hp:Cn.isP (r.to.getD 0 0) (r.to.getD 1 0) r=true:=d0t ⟨y,rfl,rfl⟩;rw[y4x,Cn.x7i,if_pos hp];rfl
    have L:Hid (∀x,x≠pk2 (r.to.getD 0 0) (r.to.getD 1 0)->x3p (rs.take k++[r]) x=x3p (rs.take k) x):=fun x hx=>x7h fun a b e q=>hx (by rw[e,<- q.2.1,<- q.2.2])
    have N:Hid (secC (rs.take k++[r]) (.int .i32 (r.to.getD 1 0))=some (.int .i64 ((Cn.secOf (rs.take k) (r.to.getD 1 0):Nat)+1))):=by
     show(if Cn.secOf (rs.take k++[r]) (r.to.getD 1 0)=0 then none else some (Value.int .i64 (Cn.secOf (rs.take k++[r]) (r.to.getD 1 0):Nat)))=_
     have hs:Cn.secOf (rs.take k++[r]) (r.to.getD 1 0)=Cn.secOf (rs.take k) (r.to.getD 1 0)+1:=by
      rw[Cn.x8K,if_pos (And.intro y rfl)]
     rw[hs,if_neg f6J];rfl
    have aj:Hid (∀x,x≠Value.int .i32 (r.to.getD 1 0)->secC (rs.take k++[r]) x=secC (rs.take k) x):=fun x hx=>x8J fun b e q=>hx (by rw[e,<- q.2]);have aq:=Cn.z4o (rs.take k) (r.to.getD 1 0);have bB:Cn.secOf (rs.take k) (r.to.getD 1 0)<=4096:=(by rw[List.length_take]at aq;exact f6J);obtain⟨R,po,pc,aQ,_,_,aF⟩:=(V c).place f6J;have ya:=aF 0 f6J;have yb:=aF 1 f6J;rw[Nat.add_zero]at ya;obtain⟨e1,_,e3⟩:=Value.slice.inj aQ;subst e1;subst e3;have t:=(V B).hx;have ar:Hid (Cbx V1 wr.heap.size (w.heap.size+3) (w.heap.size+1) (w.heap.size+2) R po r.lo (r.to.getD 0 0) (r.to.getD 1 0) (.slice (some ⟨R,po,none⟩) r.to.length J)):=⟨C,z4,cell_of (j:=0) t n5Z,cell_of (j:=1) t w2h,ya,yb⟩;obtain⟨es,cl,hu,aN⟩:=x9k (w:=V1.drew) (M:=95) klP underlying95 (r:=w.heap.size+1) (V B).mp ⟨_,_,rfl,aR,aS⟩ (V ae) (V L);have D:Hid (Cst w (setBlock V1.drew (w.heap.size+1) (.map es cl)) (rs.take k++[r]) (rs.take k)):=((V B).below (x0i ⟨1,rfl⟩)).pair aN
    have u:Hid (Cbx (setBlock V1.drew (w.heap.size+1) (.map es cl)) wr.heap.size (w.heap.size+3) (w.heap.size+1) (w.heap.size+2) R po r.lo (r.to.getD 0 0) (r.to.getD 1 0) (.slice (some ⟨R,po,none⟩) r.to.length J)):=by
     obtain⟨aZ,aY,aD,_⟩:=(V B).mp;exact(V ar).drew.block _ aD
    have bC:IntKind.i32.wrap r.lo=r.lo:=(by rw[IntKind.wrap_i32];exact f6J);have bH:((Cn.secOf (rs.take k) (r.to.getD 1 0):Nat):Int)+1<=5000:=f6J;unfold pk2 at hu;clear aN ae L aF aQ ya yb t c aC aq aR aS;rw[t2]at *;generalize r.to.getD 0 0=pa,r.to.getD 1 0=p at *;generalize hsn:Cn.secOf (rs.take k) p=sn at *;have aW:=O hsn;clear hsn;generalize hkd:r.kind=kd at *;have bm:(kd==7)=true:=(by rw[beq_iff_eq];exact y);clear hkd y;go_wp2;clear x0 x1 x2 x3 x4 x5 x6 x7 z0 C z2 z3 z4 z5 z6 z7;refine wp_region_held_drew (S:=fun w'=>Cbx w' wr.heap.size (w.heap.size+3) (w.heap.size+1) (w.heap.size+2) R po r.lo pa p (.slice (some ⟨R,po,none⟩) 2 J)) f4y (V ar).drew (fun hHeld=>?_);refine tk9 0 (.pointer (some ⟨w.heap.size+3,0,none⟩)) ?_ (hy:=S6a);refine tk9 1 (.map (some (w.heap.size+1))) ?_ (hy:=S6a);refine tk9 2 (.pointer (some ⟨wr.heap.size,4,none⟩)) ?_ (hy:=S6a);refine tk9 3 (.slice (some ⟨R,po,none⟩) 2 J) ?_ (hy:=S6a);refine tk9 4 (.pointer (some ⟨R,po,none⟩)) ?_ (hy:=S6a);refine tk9 5 (.int .i32 pa) ?_ (hy:=S6a);refine tk9 6 (.pointer (some ⟨wr.heap.size,4,none⟩)) ?_ (hy:=S6a);refine tk9 7 (.slice (some ⟨R,po,none⟩) 2 J) ?_ (hy:=S6a);refine tk9 8 (.pointer (some ⟨R,po+1,none⟩)) ?_ (hy:=S6a);refine tk9 9 (.int .i32 p) ?_ (hy:=S6a);refine tk9 10 (.agg #[.int .i32 pa,.int .i32 p]) ?_ (hy:=S6a);refine tk9 11 (.pointer (some ⟨wr.heap.size,1,none⟩)) ?_ (hy:=S6a);refine tk9 12 (.int .i64 r.lo) ?_ (hy:=S6a);refine tk9 13 (.int .i32 r.lo) ?_ (hy:=S6a);refine rd9 14 fun K hK=>?_;go_simp;refine hK.out _ _ ?_ (fun hHeld=>?_)
    ·exact V u
    clear hK K;refine wpAnyH_done f4y ?_ _;clear hHeld hu ar B;generalize setBlock V1.drew (w.heap.size+1) (.map es cl)=W5 at *;have d:=(z4X (w:=W5.drew) (M:=96) (z:=.int .i64 0) klR underlying96 z4L (r:=w.heap.size+2) (V D).ms ⟨p,rfl⟩).2;rw[z4m,V aW]at d;obtain⟨aA,ay,bu,Q⟩:=x9k (w:=W5.drew) (M:=96) klR underlying96 (r:=w.heap.size+2) (V D).ms ⟨p,rfl⟩ (V N) (V aj);have aV:Hid (Cst w (setBlock W5.drew (w.heap.size+2) (.map aA ay)) (rs.take k++[r]) (rs.take k++[r])):=((V D).below (x0i ⟨1,rfl⟩)).second Q
    have i:Hid (Cbx (setBlock W5.drew (w.heap.size+2) (.map aA ay)) wr.heap.size (w.heap.size+3) (w.heap.size+1) (w.heap.size+2) R po r.lo pa p (.slice (some ⟨R,po,none⟩) 2 J)):=by
     obtain⟨aZ,aY,aD,_⟩:=(V D).ms;exact(V u).drew.block _ aD
    have ab:Hid (Cbx W5.drew wr.heap.size (w.heap.size+3) (w.heap.size+1) (w.heap.size+2) R po r.lo pa p (.slice (some ⟨R,po,none⟩) 2 J)):=(V u).drew;have bD:IntKind.i64.wrap ((sn:Int)+1)=(sn:Int)+1:=(by rw[IntKind.wrap_i64];exact f6J);clear Q N aj D u;go_wp2;refine wp_region_held_drew (S:=fun w'=>Cbx w' wr.heap.size (w.heap.size+3) (w.heap.size+1) (w.heap.size+2) R po r.lo pa p (.slice (some ⟨R,po,none⟩) 2 J)) f4y (V ab) (fun hHeld=>?_);refine tk9 0 (.pointer (some ⟨w.heap.size+3,1,none⟩)) ?_ (hy:=S6a);refine tk9 1 (.map (some (w.heap.size+2))) ?_ (hy:=S6a);refine tk9 2 (.pointer (some ⟨wr.heap.size,4,none⟩)) ?_ (hy:=S6a);refine tk9 3 (.slice (some ⟨R,po,none⟩) 2 J) ?_ (hy:=S6a);refine tk9 4 (.pointer (some ⟨R,po+1,none⟩)) ?_ (hy:=S6a);refine tk9 5 (.int .i32 p) ?_ (hy:=S6a);refine rd9 6 fun K hK=>?_;go_simp;refine hK.out _ _ ?_ (fun hHeld=>?_)
    ·exact V ab
    clear hK K
    try simp only[Act.put,sa9,sb9,sc9]
    refine tk9 7 (.int .i64 ((sn:Int)+1)) ?_;refine rd9 8 fun K hK=>?_;go_simp;refine hK.out _ _ ?_ (fun hHeld=>?_)
    ·exact V i
    clear hK K;refine wpAnyH_done f4y ?_ _;clear hHeld bu d ab i;generalize setBlock W5.drew (w.heap.size+2) (.map aA ay)=W7 at *;go_wp2
    go_roundw
    case rel=>exact⟨k+1,g2A,f6J,by rw[aK];exact V aV⟩
    case measure=>exact g8e
   ·have bm:(r.kind==7)=false:=b0f y
    have aU:Hid (Cst w V1 (rs.take k++[r]) (rs.take k++[r])):=by
     have hp:x3p (rs.take k++[r])=x3p (rs.take k):=funext fun v=>x7h fun a b _ q=>y q.1;have hs:secC (rs.take k++[r])=secC (rs.take k):=funext fun v=>x8J fun b _ q=>y q.1;have h:=V B;exact⟨h.bel,h.sz,h.res,h.hx,by rw[hp];exact h.mp,by rw[hs];exact h.ms⟩
    clear B c aC y;generalize r.kind=kd at *;go_wp2
    go_roundw
    case rel=>exact⟨k+1,g2A,f6J,by rw[aK];exact V aU⟩
    case measure=>exact g8e
  ·obtain rfl:k=rs.length:=f6J;rw[List.take_of_length_le (l0r _)]at l;have t:=l.hx;have y0:=cell_of (j:=0) t n5Z;have y1:=cell_of (j:=1) t w2h;have F1:=l.res;have z0:=cell_of (j:=0) F1 n5Z;have C:=cell_of (j:=1) F1 w2h;have f0:=fun j=>x0d (j:=j) F1;obtain⟨F2,F3⟩:=l.fin;have aI:=O F2;have aJ:=O F3;clear U Z aw l t F1 F2 F3;go_wp2;have X:=V aI;have Y:=V aJ;clear aI aJ y0 y1 f0 z0 C;generalize(wr.setCell ⟨w.heap.size,0,none⟩ (.map (some (w.heap.size+1)))).setCell ⟨w.heap.size,1,none⟩ (.map (some (w.heap.size+2)))=bI at *;have z0:=cell_of (j:=0) X n5Z;have C:=cell_of (j:=1) X w2h;refine bodyPost_ret (v:=.agg #[.map (some (w.heap.size+1)),.map (some (w.heap.size+2))]) (by simp[results,Tryz.results96,go_sem,z0,C]) rfl Y
open Go.RowKit Go.MapKept Go.WideMaps
open Go.ChangeMaps (setBlock)
open Go.Lib (minS maxS run_min_strs run_max_strs)
def MxAt(w:World)(r:Nat):Prop:=∃c,GAt KN w r c
theorem y9W{w:World}{r:Nat}{a b:ByteArray}(h:MxAt w r)(E:Sh a)(Y:Sh b)(v:Value):∃p cl,(Instr.mapUpdate 99 (.map (some r)) (pk a b) v).run prog w=.ok () (setBlock w r (.map p cl))/\∃c,GObj KN p cl c:=by
 obtain⟨c,h⟩:=h;have dec:∀x:Value,Decidable (x=pk a b):=fun x=>Classical.propDecidable _;obtain⟨p,cl,Z,D⟩:=x9k (M:=99) (c':=fun x=>@ite _ (x=pk a b) (dec x) (some v) (c x)) klN underlying99 h ⟨a,b,rfl,E,Y⟩ (if_pos rfl) (fun x A=>if_neg A);exact⟨p,cl,Z,_,D⟩
theorem x6B(a b:ByteArray)(w:World):Calls prog 150 #[.string a,.string b] w fun e w'=>e=.returned (pk (minS a b) (maxS a b))/\Bw w w':=by
 have Z:=@run_min_strs prog;have D:=@run_max_strs prog;unfold pk;go_enter func150,ntmps150;go_wp2;go_returns;exact⟨rfl,(b0r).alloc (l0r _) _⟩
structure Mst(w wr:World):Prop where
 bel:Below w.heap.size w wr
 sz:w.heap.size+3<=wr.heap.size
 res:wr.heap[w.heap.size]?=some (.cells #[.map none] 101 (0,0))
 hx:wr.heap[w.heap.size+2]?=some (.cells #[.map (some (w.heap.size+1))] 101 (0,0))
 mp:MxAt wr (w.heap.size+1)
theorem Mst.below{w wr w':World}(h:Mst w wr)(Y:Bw wr w'):Mst w w':=by
 have C:=h.sz;obtain⟨c,P,g,l,L⟩:=h.mp;exact⟨bthen h.bel Y,Nat.le_trans C Y.size,by rw[Y.block _ f6J];exact h.res,by rw[Y.block _ f6J];exact h.hx,c,P,g,by rw[Y.block _ f6J];exact l,L⟩
theorem Mst.more{w wr:World}(h:Mst w wr){p:Array MapEntry}{cl:Nat}(H:∃c,GObj KN p cl c):Mst w (setBlock wr (w.heap.size+1) (.map p cl)):=by
 have C:=h.sz;obtain⟨c,H⟩:=H;exact⟨x3B h.bel f6J _,e0G,u6M,W7g,c,p,cl,x3L f6J,H⟩
def MxtB(w:World)(e:Ending)(w':World):Prop:=∃r,e=.returned (.agg #[.map (some r)])/\w.heap.size<=r/\MxAt w' r/\Below w.heap.size w w'
theorem Mst.fin{w wr:World}(h:Mst w wr):(wr.setCell ⟨w.heap.size,0,none⟩ (.map (some (w.heap.size+1)))).heap[w.heap.size]?=some (.cells #[.map (some (w.heap.size+1))] 101 (0,0))/\MxtB w (.returned (.agg #[.map (some (w.heap.size+1))])) (wr.setCell ⟨w.heap.size,0,none⟩ (.map (some (w.heap.size+1)))):=by
 obtain⟨c,P,g,l,L⟩:=h.mp;exact⟨by rw[x0c h.res];rfl,_,rfl,f6J,⟨c,P,g,by rw[x0e _ f6J];exact l,L⟩,x0b h.bel (l0r _) _⟩
theorem z7s(w:World):∃W1 M T,w.alloc (.cells #[.map none] 101)=W1/\W1.alloc (.map #[] 0)=M/\M.alloc (.cells #[.map (some (w.heap.size+1))] 101)=T/\W1.heap.size=w.heap.size+1/\M.heap.size=w.heap.size+2/\Mst w T:=by
 refine⟨_,_,_,rfl,rfl,rfl,M7M,M7M,?_⟩;have Y:Bw w (((w.alloc (.cells #[.map none] 101)).alloc (.map #[] 0)).alloc (.cells #[.map (some (w.heap.size+1))] 101)):=(((b0r).alloc (l0r _) _).alloc M7M _).alloc P8P _;refine⟨Y,M7M,?_,?_,fun _=>none,#[],0,?_,y8X _ _ fun _=>rfl⟩
 ·show(((w.heap.push _).push _).push _)[w.heap.size]?=_;rw[Array.getElem?_push,Array.getElem?_push,Array.getElem?_push];exact m7X
 ·show(((w.heap.push _).push _).push _)[w.heap.size+2]?=_;rw[Array.getElem?_push,Array.getElem?_push,Array.getElem?_push];simp only[Array.size_push];rw[if_pos trivial]
 ·show(((w.heap.push _).push _).push _)[w.heap.size+1]?=_;rw[Array.getElem?_push,Array.getElem?_push,Array.getElem?_push];exact v6h
structure Mbx(W:World)(g x m1:Nat)(nm ot:ByteArray)(wt:Nat):Prop where
 name:W.cell? ⟨g,5,none⟩=some (.string nm)
 other:W.cell? ⟨g,6,none⟩=some (.string ot)
 wt:W.cell? ⟨g,7,none⟩=some (.float .f64 wt)
 x0:W.cell? ⟨x,0,none⟩=some (.map (some m1))
theorem Mbx.below{W N:World}{g x l wt:Nat}{R M:ByteArray}(h:Mbx W g x l R M wt)(Y:Bw W N):Mbx N g x l R M wt :=
 ⟨u7C,M7T,t0A,w6u⟩
theorem Mbx.block{W:World}{g x l r wt:Nat}{R M:ByteArray}(h:Mbx W g x l R M wt){p:Array MapEntry}{cl:Nat}(o:Obj)(hr:W.heap[r]?=some (.map p cl)):Mbx (setBlock W r o) g x l R M wt:=by
 have k:∀S j v,W.cell? ⟨S,j,none⟩=some v->(setBlock W r o).cell? ⟨S,j,none⟩=some v:=fun S j v I=>W5Z
 exact⟨k _ _ _ h.name,k _ _ _ h.other,k _ _ _ h.wt,k _ _ _ h.x0⟩
theorem x7W(v:Value)(rs:List Rec)(w:World)(N:Rcs w v rs)(aH:∀r∈rs,r.kind=15->Sh r.name/\Sh r.other):Calls prog 97 #[v] w (MxtB w):=by
 obtain⟨W1,W2,W3,z,f,x,aO,aP,aB⟩:=z7s w;have aR:=N.1;obtain⟨ao,M,g,_,_⟩:=N.shape
 have U:Hid (∀k W,k<rs.length->Bw w W->∃b P,v=.slice (some ⟨b,P,none⟩) rs.length M/\RecAt W b (P+k*8) (rs.getD k Cn.none)):=fun k W hk hW=>by
  obtain⟨b,P,aQ,s,_,_,hc⟩:=(N.below hW).place f6J;rw[g]at s;obtain⟨e1,e2,e3⟩:=Value.slice.inj s;refine⟨b,P,?_,hc k hk⟩;rw[g,e1]
 have L:Hid (∀k,k<rs.length->(rs.getD k Cn.none).kind=15->Sh (rs.getD k Cn.none).name/\Sh (rs.getD k Cn.none).other):=fun k hk h=>aH _ E8Q h;have aw:=O aB;have aN:=y1P;clear N aH aB;subst g;go_enter func97,ntmps97;go_wp2;clear aN;go_loopw[5,10] (fun _ iv wr=>∃k:Nat,iv=.int .i64 k/\k<=rs.length/\Mst w wr) (fun _ iv _=>rs.length-(intOf iv).toNat)
 case atStart=>exact⟨0,rfl,f6J,V aw⟩
 case round =>
  obtain⟨k,rfl,hk,l⟩:=hrel;clear aw z f x aO aP;by_cases aF:k<rs.length
  ·obtain⟨b,P,s,hA⟩:=V U k wr aF l.bel;obtain⟨q1,_,_⟩:=Value.slice.inj s;clear s;subst q1;have am:=V L k aF;obtain⟨x0,x1,x2,x3,⟨va,x4,aJ⟩,x5,x6,x7⟩:=hA;obtain⟨d,J,rfl,_,_⟩:=aJ.shape;clear U L aJ;generalize rs.getD k Cn.none=r at *;obtain⟨q,E⟩:∃q,wr.alloc (.cells #[.int .i64 r.kind,.int .i64 r.lo,.int .i64 r.hi,.int .i64 r.n,.slice d r.to.length J,.string r.name,.string r.other,.float .f64 r.wt] 60)=q:=⟨_,rfl⟩;have aC:Bw wr q:=by rw[<- E];exact(b0r).alloc (l0r _) _
   have F:q.heap[wr.heap.size]?=some (.cells #[.int .i64 r.kind,.int .i64 r.lo,.int .i64 r.hi,.int .i64 r.n,.slice d r.to.length J,.string r.name,.string r.other,.float .f64 r.wt] 60 (0,0)):=by
    rw[<- E];exact s6P
   have D:=l.below aC;have aU:∀W a m,(store a (.float .f64 r.wt) m).run prog W=stored prog W a (.float .f64 r.wt) m:=fun W a m=>run_store prog W a _ m rfl;obtain⟨z0,z1,z2,z3,z4,z5,z6,z7⟩:=x4F F;have B:=O D;have ab:Hid (Mbx q wr.heap.size (w.heap.size+2) (w.heap.size+1) r.name r.other r.wt):=⟨z5,z6,z7,cell_of (j:=0) D.hx w8q⟩;clear l D aC F;by_cases y:r.kind=15
   ·obtain⟨sa,sb⟩:=am y;have aq:=z5s sa sb;have KE:Hid (∀W,Calls prog 150 #[.string r.name,.string r.other] W fun e w'=>e=.returned (pk (minS r.name r.other) (maxS r.name r.other))/\Bw W w'):=fun W=>x6B _ _ W;have Q:Hid (∀W,Calls prog 149 #[.float .f64 r.wt] W fun e w'=>∃u n,e=.returned (.float .f64 u)/\w'=W.drewN n):=fun W=>y2R r.wt W;have A:Hid (∀W u,MxAt W (w.heap.size+1)->∃p i,(Instr.mapUpdate 99 (.map (some (w.heap.size+1))) (pk (minS r.name r.other) (maxS r.name r.other)) (.float .f64 u)).run prog W=.ok () (setBlock W (w.heap.size+1) (.map p i))/\∃c,GObj KN p i c):=fun W u h=>y9W h aq.1 aq.2 _;unfold pk at KE A;have R:Hid (Mbx q.drew wr.heap.size (w.heap.size+2) (w.heap.size+1) r.name r.other r.wt):=(V ab).below (x0i ⟨1,rfl⟩);have Y:Hid (Mst w q.drew):=(V B).below (x0i ⟨1,rfl⟩);generalize minS r.name r.other=k1,maxS r.name r.other=k2,hkd:r.kind=kd at *;have aL:(kd==15)=true:=(by rw[beq_iff_eq];exact y);clear hkd y am sa sb aq ab B;go_wp2;clear x0 x1 x2 x3 x4 x5 x6 x7 z0 z1 z2 z3 z4 z5 z6 z7;refine wp_region_held_drew (S:=fun w'=>Mbx w' wr.heap.size (w.heap.size+2) (w.heap.size+1) r.name r.other r.wt) f4y (V R) (fun hHeld=>?_);refine tk9 0 (.pointer (some ⟨w.heap.size+2,0,none⟩)) ?_ (hy:=g0j);refine tk9 1 (.map (some (w.heap.size+1))) ?_ (hy:=g0j);refine tk9 2 (.pointer (some ⟨wr.heap.size,5,none⟩)) ?_ (hy:=g0j);refine tk9 3 (.string r.name) ?_ (hy:=g0j);refine tk9 4 (.pointer (some ⟨wr.heap.size,6,none⟩)) ?_ (hy:=g0j);refine tk9 5 (.string r.other) ?_ (hy:=g0j);refine tk9 7 (.pointer (some ⟨wr.heap.size,7,none⟩)) ?_ (hy:=g0j);refine tk9 8 (.float .f64 r.wt) ?_ (hy:=g0j);refine rd9 6 fun K hK=>?_;go_simp;refine c1m (V KE _) fun w2 t=>?_;have X:Hid (Mbx w2 wr.heap.size (w.heap.size+2) (w.heap.size+1) r.name r.other r.wt):=(V R).below t;have ay:Hid (Mst w w2):=(V Y).below t;clear t;refine hK.out _ _ ?_ (fun hHeld=>?_)
    ·exact V X
    clear hK K
    try simp only[Act.put,sa9,sb9,sc9]
    refine rd9 9 fun K hK=>?_;go_simp;refine(V Q _).mono ?_;rintro e3 w3 ⟨u3,n3,rfl,aI⟩;have aj:Bw w2 w3:=(by rw[aI];exact x0i ⟨n3,rfl⟩);clear aI;have ae:Hid (Mbx w3 wr.heap.size (w.heap.size+2) (w.heap.size+1) r.name r.other r.wt):=(V X).below aj;have Z:Hid (Mst w w3):=(V ay).below aj;obtain⟨p,i,hu,G⟩:=V A w3 u3 (V Z).mp;have aK:=O ((V Z).more G)
    have ar:Hid (Mbx (setBlock w3 (w.heap.size+1) (.map p i)) wr.heap.size (w.heap.size+2) (w.heap.size+1) r.name r.other r.wt):=by
     obtain⟨_,aT,aS,aM,_⟩:=(V Z).mp;exact(V ae).block _ aM
    clear aj G;refine hK.out _ _ ?_ (fun hHeld=>?_)
    ·exact V ae
    clear hK K
    try simp only[Act.put,sa9,sb9,sc9]
    refine rd9 10 fun K hK=>?_;go_simp;refine hK.out _ _ ?_ (fun hHeld=>?_)
    ·exact V ar
    clear hK K;refine wpAnyH_done f4y ?_ _;clear hHeld hu R X ae ar Y ay Z KE Q A;generalize setBlock w3 (w.heap.size+1) (.map p i)=W5 at *;go_wp2
    go_roundw
    case rel=>exact⟨k+1,g2A,f6J,V aK⟩
    case measure=>exact g7W
   ·have aL:(r.kind==15)=false:=b0f y;clear ab am y;generalize r.kind=kd at *;go_wp2
    go_roundw
    case rel=>exact⟨k+1,g2A,f6J,V B⟩
    case measure=>exact g7W
  ·obtain rfl:k=rs.length:=f6J;have hX:=l.hx;have y0:=cell_of (j:=0) hX w8q;have F1:=l.res;have z0:=cell_of (j:=0) F1 w8q;have f0:=fun j=>x0d (j:=j) F1;obtain⟨F2,F3⟩:=l.fin;have aA:=O F2;have C:=O F3;clear U L l hX F1 F2 F3;go_wp2;have aG:=V aA;have aD:=V C;clear aA C y0 f0 z0;generalize wr.setCell ⟨w.heap.size,0,none⟩ (.map (some (w.heap.size+1)))=aV at *;have z0:=cell_of (j:=0) aG w8q;refine bodyPost_ret (v:=.agg #[.map (some (w.heap.size+1))]) (by simp[results,Tryz.results97,go_sem,z0]) rfl aD
