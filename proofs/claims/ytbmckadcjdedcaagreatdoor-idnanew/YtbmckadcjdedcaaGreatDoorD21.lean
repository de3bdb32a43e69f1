/- Ui9 Uj9 Uq9 Up9 Ur9 -/
import Derived.Test.YtbmckadcjdedcaaGreatDoorD13
import Derived.Deep.RegionHeld
import Derived.Deep.AppendLies
import Derived.Test.YtbmckadcjdedcaaGreatDoorD22
set_option maxHeartbeats 8000000
set_option maxRecDepth 8000
namespace Go.Proofs.YtbmckadcjdedcaaGreatDoor
open Go.Proofs.Tryz
open Go.RowKit
open Ti
section
variable{p:Prop}
theorem W2D(h:p:=by
 have F:c≠r:=fun e=>by
  subst e;simp only[World.cell?,hr]at I;cases I
 rw[World.cell?_of_block (x0q F)];exact I):p:=h
theorem u2U(h:p:=by simp[zeroValue,typeInfo,run_program,Result.andThen,D,Z]):p:=h
theorem n7Y(h:p:=by rw[x0q f6J];exact h.res):p:=h
theorem t4i(h:p:=by(intro w hSw;obtain⟨T,J,d,Y,F,s5⟩:=hSw;go_simp)):p:=h
theorem m4C(h:p:=by rw[x0q f6J];exact h.hx):p:=h
theorem E8c(h:p:=by have:=h.sz;exact f6J):p:=h
theorem e4I(h:p:=by rw[World.size_alloc];exact f6J):p:=h
theorem E3k(h:p:=by rw[World.size_alloc,World.size_alloc];exact f6J):p:=h
theorem m7X(h:p:=by simp only[Array.size_push];rw[if_neg f6J,if_neg f6J,if_pos trivial]):p:=h
theorem F1X(h:p:=by rw[List.length_append,Ti.x2k];exact hr):p:=h
theorem s8S(h:p:=by rw[x1H];exact K):p:=h
theorem T8b(h:p:=by(intro w hSw;obtain⟨T,J,s2,s3⟩:=hSw;go_simp)):p:=h
theorem n6a(h:p:=by show 0<2;exact f6J):p:=h
theorem u7C(h:p:=by rw[List.length_append];exact f6J):p:=h
theorem T8Q(h:p:=by(intro w hSw;obtain⟨s0,s1,s2,s3,s4,s5,s6,s7⟩:=hSw;go_simp)):p:=h
theorem v6h(h:p:=by simp only[Array.size_push];rw[if_neg f6J,if_pos trivial]):p:=h
theorem w8q(h:p:=by show 0<1;exact f6J):p:=h
theorem w2h(h:p:=by show 1<2;exact f6J):p:=h
end
namespace Cn
theorem x3e{g:Nat->Rec->Int}:∀(l:List Rec) (i:Nat) (r:Rec),rangesA g i (l++[r])=rangesA g i l++spoken r (g (i+l.length) r)
 | [],i,r=>by simp[rangesA]
 | x::l,i,r=>by
  rw[List.cons_append,rangesA,x3e l (i+1) r,rangesA,List.append_assoc,List.length_cons,(f6J:i+1+l.length=i+(l.length+1))]
theorem x5b{r:Rec}(h:right r=0)(G:r.kind≠15)(v:Int):(spoken r v).length<=1114112:=by
 obtain⟨J,d,Y⟩:=x0o h G;unfold spoken;split
 ·simp
 ·rw[x5L]
  rename_i hc
  have B:=right_step h;have H:r.kind=4:=Decidable.byContradiction fun e=>hc (.inl e);unfold step at B;rw[if_pos H]at B;have:(r.hi-r.lo) / r.n<=r.hi-r.lo:=Int.ediv_le_self _ f6J;omega
theorem x3M{g:Nat->Rec->Int}:∀(l:List Rec) (i:Nat),(∀r∈l,right r=0/\r.kind≠15)->(rangesA g i l).length<=1114112*l.length
 | [],_,_=>by simp[rangesA]
 | r::l,i,h=>by
  rw[rangesA,List.length_append,List.length_cons];have D:=x5b (h r M7K).1 (h r M7K).2 (g i r);have Z:=x3M (g:=g) l (i+1) (fun x J=>h x (List.mem_cons_of_mem _ J));omega
end Cn
theorem y1f(r:Rec)(v:Int)(h:Cn.right r=0)(G:r.kind≠15):0<(Cn.spoken r v).length:=by
 unfold Cn.spoken;split
 ·simp
 ·rw[Cn.x5L]
  rename_i hc
  obtain⟨J,d,Y⟩:=Cn.x0o h G;have B:=Cn.right_step h;have H:r.kind=4:=Decidable.byContradiction fun e=>hc (.inl e);unfold Cn.step at B;rw[if_pos H]at B;have:=Int.ediv_nonneg (a:=r.hi-r.lo) (b:=r.n) f6J f6J;omega
theorem z2h{l w2 w4:World}{P F:Value}{xs ys:List Tri.Rg}(A:Bw l w2)(U:Or4 w2 l.heap.size P xs)(hy:FitR ys)(S:xs.length+ys.length<=5000000000)(hr:w4.ownsRow l.heap.size 259 3 F (xs.length+ys.length) (Ti.rcells xs++Ti.rcells ys))(Y:w2.grownBy w4 P.ownBlock):Or4 w4 l.heap.size F (xs++ys)/\Bw l w4 :=
 ⟨⟨fun r h=>by
  rcases List.mem_append.1 h with h | h
  ·exact U.1 r h
  ·exact hy r h,u7B,F1X⟩,A.grown Y A.size (fun g Q=>(U.2.2.lt g Q).1)⟩
theorem y9a{w:World}{B:Nat}{v:Value}{ys:List Tri.Rg}(h:Or4 w B v ys)(E:0<ys.length):∃g cap,v=.slice (some ⟨g,0,none⟩) ys.length cap/\∀j u,(Ti.rcells ys)[j]?=some u->w.cell? ((⟨g,0,none⟩:Addr).add j)=some u:=by
 rcases h.2.2.2 with⟨_,T⟩ | ⟨g,cap,P,rfl,_⟩
 ·omega
 ·exact⟨g,cap,rfl,fun j u K=>h.2.2.cells (g:=g) rfl j u K⟩
theorem z4g{w w':World}{b:Nat}{J lo hi n:Int}{vt:Value}{Z M:ByteArray}{wt:Nat}(h:BoxAt w b J lo hi n vt Z M wt)(C:w'.heap[b]?=w.heap[b]?):BoxAt w' b J lo hi n vt Z M wt:=by
 have e:∀j,w'.cell? ⟨b,j,none⟩=w.cell? ⟨b,j,none⟩:=fun j=>World.cell?_of_block C;exact⟨by rw[e];exact h.1,by rw[e];exact h.2,by rw[e];exact h.3,by rw[e];exact h.4,by rw[e];exact h.5,by rw[e];exact h.6,by rw[e];exact h.7,by rw[e];exact h.8⟩
theorem y1m(v:Value)(rs:List Rec)(B:Int)(w:World)(hg:Glob w)(hv:Rcs w v rs)(hk:I64 B)(aM:∀r∈Cn.famOf (Cn.fam B) rs,Cn.right r=0/\r.kind≠15/\Fi (Cn.value r))(hl:(Cn.famOf (Cn.fam B) rs).length<=4096)(t:∀m:List Tri.Rg,m.Perm (Cn.rangesA (fun _ r=>Cn.value r) 1 (Cn.famOf (Cn.fam B) rs))->(m.Pairwise fun x y=>Tri.lo x<=Tri.lo y)->Tri.Val 0 m):Calls prog 86 #[v,.int .i64 B] w (x6b w (Cn.rangesA (fun _ r=>Cn.value r) 1 (Cn.famOf (Cn.fam B) rs))):=by
 obtain⟨i0,aQ,aV,aW,aX⟩:=info_parts Tryz.info259;have i:=O (x5k v rs B w hg hv hk);unfold FamB at i;obtain⟨ao,ai,aU,_,_⟩:=hv.shape;generalize Cn.famOf (Cn.fam B) rs=J at *;have Z:=O aM;have ae:=O t;clear hv hg aM t;subst aU;go_enter func86,ntmps86;go_wp2_with fail;refine(V i).mono ?_;rintro e1 w1 ⟨v1,ps,rfl,q,hR,E⟩;have aR:ps.length=J.length:=(by rw[<- q,List.length_map]);have aj:Rcs w1 v1 J:=by rw[<- q];exact hR.rsx.rcs E f6J
 have ag:Hid (∀k,(Cn.rangesA (fun _ r=>Cn.value r) 1 (J.take k)).length<=4563402752):=fun k=>by
  have h1:=Cn.x3M (g:=fun _ r=>Cn.value r) (J.take k) 1 (fun r hr=>⟨(V Z r (List.mem_of_mem_take hr)).1,(V Z r (List.mem_of_mem_take hr)).2.1⟩);have h2:(J.take k).length<=J.length:=List.length_take_le' _ _;omega
 have Y:Hid (∀k,k<J.length->∃b P ai,v1=.slice (some ⟨b,P,none⟩) J.length ai/\RecAt w1 b (P+k*8) (J.getD k Cn.none)/\RecFit (J.getD k Cn.none)):=fun k hk=>by
  obtain⟨b,P,ai,he,_,_,hc⟩:=aj.place f6J;exact⟨b,P,ai,he,hc k hk,aj.fit hk⟩
 have ar:Hid (∀k,k<J.length->Cn.rangesA (fun _ r=>Cn.value r) 1 (J.take (k+1))=Cn.rangesA (fun _ r=>Cn.value r) 1 (J.take k)++Cn.spoken (J.getD k Cn.none) (Cn.value (J.getD k Cn.none))):=fun k hk=>by
  have e:J.take (k+1)=J.take k++[J.getD k Cn.none]:=by
   rw[List.take_add_one];exact E8V
  rw[e,Cn.x3e]
 have M:Hid (∀e w',x6b w1 (Cn.rangesA (fun _ r=>Cn.value r) 1 J) e w'->x6b w (Cn.rangesA (fun _ r=>Cn.value r) 1 J) e w'):=fun e w' h=>by
  obtain⟨a,m,h1,h2,h3,h4,h5⟩:=h;exact⟨a,m,h1,h2,h3,h4.lower E.size,x0b E h5⟩
 obtain⟨bh,aZ,aO,_,_⟩:=aj.shape;subst aO;clear i q hR aj aR E;go_wp2;go_loopw[5,7,12] (fun rv _ iv wr=>∃k:Nat,iv=.int .i64 k/\k<=J.length/\Or4 wr w1.heap.size rv (Cn.rangesA (fun _ r=>Cn.value r) 1 (J.take k))/\Bw w1 wr) (fun _ _ iv _=>J.length-(intOf iv).toNat)
 case atStart=>exact⟨0,rfl,f6J,Or4.nil _ _,b0r⟩
 case round =>
  obtain⟨k,rfl,hk,F,A⟩:=hrel;by_cases az:k<J.length
  ·obtain⟨b,P,aY,he,hA,af⟩:=V Y k az;obtain⟨e1,e2,e3⟩:=Value.slice.inj he;clear e2 e3 he;subst e1;obtain⟨D,N,aN⟩:=V Z (J.getD k Cn.none) (by simp[List.getD,az]);have aB:=O (V ar k az);have bn:=V ag k;obtain⟨y0,y1,y2,y3,⟨va,y4,c⟩,y5,y6,y7⟩:=hA;obtain⟨s,L,rfl,_,_⟩:=c.shape;have hold:∀j u,w1.cell? ⟨b,P+k*8+j,none⟩=some u->wr.cell? ⟨b,P+k*8+j,none⟩=some u:=fun j u h=>E6n;have x0:wr.cell? ⟨b,P+k*8,none⟩=_:=hold 0 _ y0;have x1:=hold 1 _ y1;have x2:=hold 2 _ y2;have x3:=hold 3 _ y3;have x4:=hold 4 _ y4;have x5:=hold 5 _ y5;have x6:=hold 6 _ y6;have x7:=hold 7 _ y7;clear hold y0 y1 y2 y3 y4 y5 y6 y7 Y ar ae M;generalize J.getD k Cn.none=r at *;have aP:∀W a m,(store a (.float .f64 r.wt) m).run prog W=stored prog W a (.float .f64 r.wt) m:=fun W a m=>run_store prog W a _ m rfl;obtain⟨f,bj,T,ay⟩:=x0L wr r.kind r.lo r.hi r.n (.slice s r.to.length L) r.name r.other r.wt;have l:=O (x0b A ay);have ab:Hid (∀W,Bw f W->BoxAt W wr.heap.size r.kind r.lo r.hi r.n (.slice s r.to.length L) r.name r.other r.wt):=fun W h=>T.keep h;have aC:Hid (∀W,Bw f W->Or4 W w1.heap.size u5 (Cn.rangesA (fun _ r=>Cn.value r) 1 (J.take k))/\Bw w1 W):=fun W h=>⟨(F.below ay).below h,x0b (V l) h⟩;have X:Hid (∀W,Bw f W->Calls prog 137 #[recV r (.slice s r.to.length L)] W (IntB W (Cn.value r))):=fun W h=>y6a r _ W af (c.below (x0b (V l) h));have KS:Hid (∀W,Bw f W->Calls prog 136 #[recV r (.slice s r.to.length L),.int .i64 (Cn.value r)] W (y6m W (Cn.spoken r (Cn.value r)))):=fun W h=>x7g r _ _ W af (c.below (x0b (V l) h)) D N aN;have aT:=y1f r (Cn.value r) D N;have bm:=Cn.x5b D N (Cn.value r);unfold recV at X KS;obtain⟨z0,z1,z2,z3,z4,z5,z6,z7⟩:=T;have U:Hid (u5.ownBlock≠some wr.heap.size):=fun e=>(by have:=(F.2.2.lt _ e).2;exact f6J);have aD:Hid (wr.heap.size<f.heap.size):=x0a z0;clear F A ay af c D N aN Z ag;generalize Cn.spoken r (Cn.value r)=ys at *;generalize Cn.value r=vv at *;generalize Cn.rangesA (fun _ r=>Cn.value r) 1 (J.take k)=xs,r.kind=kd,r.lo=lo,r.hi=hi,r.n=n at *;generalize r.name=nm,r.other=ot,r.wt=wt,r.to.length=tl at *;go_wp2;clear l x0 x1 x2 x3 x4 x5 x6 x7 z0 z1 z2 z3 z4 z5 z6 z7 aP;refine wp_region_held_drew (S:=fun w'=>BoxAt w' wr.heap.size kd lo hi n (.slice s tl L) nm ot wt) f4y (V ab _ (x0k ⟨1,rfl⟩)) (fun hHeld=>?_);refine tk9 0 u5 ?_;refine tk9 1 (.agg #[.int .i64 kd,.int .i64 lo,.int .i64 hi,.int .i64 n,.slice s tl L,.string nm,.string ot,.float .f64 wt]) ?_ (hy:=T8Q);refine tk9 2 (.agg #[.int .i64 kd,.int .i64 lo,.int .i64 hi,.int .i64 n,.slice s tl L,.string nm,.string ot,.float .f64 wt]) ?_ (hy:=T8Q);refine rd9 3 fun K hK=>?_;go_simp;refine c1m (V X _ (x0k ⟨1,rfl⟩)) fun w2 aJ=>?_;have d:=O (x0b (x0k ⟨1,rfl⟩) aJ:Bw f w2);clear aJ;refine hK.out _ _ ?_ (fun hHeld=>?_)
   ·exact V ab _ (V d)
   clear hK K
   try simp only[Act.put,sa9,sb9,sc9]
   refine rd9 4 fun K hK=>?_;go_simp;refine(V KS _ (V d)).mono ?_;rintro e3 w3 ⟨v3,rfl,H,aK⟩;have z:=x0b (V d) aK;obtain⟨g3,aF,rfl,aq⟩:=y9a H aT;have aw:=V aC _ z;have ba:=aw.2.size;have HM:=O aw;have aA:=O H.1;have G:=O aq;have p:=O (Ti.x4R ys);have I:=O z;clear H aK z aw aq;refine hK.out _ _ ?_ (fun hHeld=>?_)
   ·exact V ab _ (V I)
   clear hK K
   try simp only[Act.put,sa9,sb9,sc9]
   refine rd9 5 fun K hK=>?_;refine step_append_lies _ (by rfl) (.tmp 16) (.tmp 20) 203 (by rfl) w1.heap.size 259 i0 (.agg #[.int .i64 0,.int .i64 0,.int .i64 0]) 3 24 underlying203 aQ aV aW aX rfl f6J u5 xs.length (Ti.rcells xs) (by rfl) (V HM).1.2.2 ⟨g3,0,none⟩ ys.length aF (Ti.rcells ys) (by rfl) (by rw[Ti.x1P]) (V G) (V p) f6J T7X f6J f6J w3.heap.size rfl ?_;intro gg aG w8 Q C aI aL;have am:=z4g (V ab _ (V I)) (C.block wr.heap.size (Nat.lt_of_lt_of_le (V aD) (V I).size) (fun e=>V U e.symm));have R:=z2h (V HM).2 (V HM).1 (V aA) f6J Q C;rw[<- V aB]at R;have HR:=O R;clear R Q C aI;refine hK.out _ _ ?_ (fun hHeld=>?_)
   ·exact am
   clear hK K am
   try simp only[Act.put,sa9,sb9,sc9]
   refine tk9 6 (.slice (some ⟨gg,0,none⟩) (xs.length+ys.length) aG) ?_;refine wpAnyH_done f4y ?_ _;clear hHeld HM aA G p aC ab X KS aB d I U aD aL;go_wp2
   go_roundw
   case rel=>exact⟨k+1,g2D,f6J,(V HR).1,(V HR).2⟩
   case measure=>exact g7V
  ·obtain rfl:k=J.length:=f6J;rw[List.take_of_length_le (l0r _)]at F;have KB:=O (y6G w1 wr _ _ A F (by have:=V ag J.length;rw[List.take_of_length_le (l0r _)]at this;exact f6J) (V ae));obtain⟨ro,be,aS,_,_⟩:=F.sr.shape;subst aS;clear F A Y ar Z ag ae;go_wp2_with fail;refine(V KB).mono ?_;intro e w9 aH;have h9:=V M e w9 aH;obtain⟨a,m,rfl,q2,q3,q4,q5⟩:=h9;have HF:x6b w (Cn.rangesA (fun _ r=>Cn.value r) 1 J) (.returned (.pointer (some a))) w9:=⟨a,m,rfl,q2,q3,q4,q5⟩;clear KB aH M q2 q3 q4 q5;go_wp2;go_ret;exact HF
open Ti
def SpkB(w:World)(fs:List Rec)(e:Ending)(w':World):Prop:=∃a m vl ps,e=.returned (.agg #[.pointer (some a),vl])/\m.Perm (Cn.rangesA (fun i _=>(i:Int)) 1 fs)/\(m.Pairwise fun x y=>Tri.lo x<=Tri.lo y)/\T4 w' w.heap.size (.pointer (some a)) m 0/\Rown w' w.heap.size vl ps/\ps.map (·.1)=Cn.none::fs/\Below w.heap.size w w'
structure Spst(w w1 wr:World)(rv lv:Value)(xs:List Tri.Rg)(ps:List (Rec×Value)):Prop where
 bel:Below w.heap.size w wr
 sz:w1.heap.size<=wr.heap.size
 s1:w.heap.size+2<=w1.heap.size
 old:∀g,g<w1.heap.size->g≠w.heap.size+1->wr.heap[g]?=w1.heap[g]?
 res:w1.heap[w.heap.size]?=some (.cells #[.pointer none,.slice none 0 0] 138 (0,0))
 rng:Or4 wr w1.heap.size rv xs
 rcs:Rown wr w.heap.size lv ps
 lvb:∀g,lv.ownBlock=some g->g=w.heap.size+1\/w1.heap.size<=g
section
variable {w w1 wr w':World} {rv lv v' vt:Value} {xs ys:List Tri.Rg} {ps:List (Rec×Value)} {r:Rec} {o:Obj}
theorem Spst.below(h:Spst w w1 wr rv lv xs ps)(C:Bw wr w'):Spst w w1 w' rv lv xs ps :=
 ⟨x0b h.bel C,Nat.le_trans h.sz C.size,h.s1,fun g D Z=>by rw[C.block g E8c];exact h.old g D Z,h.res,h.rng.below C,⟨x0u h.rcs.1 fun g Y=>C.block g (h.rcs.1.lt g Y).2,fun p A=>(h.rcs.2 p A).below C⟩,h.lvb⟩
theorem Spst.keep(h:Spst w w1 wr rv lv xs ps){B:Nat}(X:wr.heap.size<=w'.heap.size)(C:Bw w w')(l:w1.heap.size<=B)(G:∀g,g<wr.heap.size->g≠B->w'.heap[g]?=wr.heap[g]?)(hr:rv.ownBlock≠some B)(S:lv.ownBlock≠some B)(A:∀p∈ps,p.2.ownBlock≠some B):Spst w w1 w' rv lv xs ps :=
 ⟨C,Nat.le_trans h.sz X,h.s1,fun g D Z=>by rw[G g E8c f6J];exact h.old g D Z,h.res,⟨h.rng.1,h.rng.2.1,x0u h.rng.2.2 fun g Y=>G g (h.rng.2.2.lt g Y).2 (fun e=>hr (by rw[Y,e]))⟩,
  ⟨x0u h.rcs.1 fun g Y=>G g (h.rcs.1.lt g Y).2 (fun e=>S (by rw[Y,e])),fun p T=>(h.rcs.2 p T).keep fun g Y=>G g ((h.rcs.2 p T).2.2.lt g Y).2 (fun e=>A p T (by rw[Y,e]))⟩,h.lvb⟩
theorem Spst.ranges(h:Spst w w1 wr rv lv xs ps)(hy:FitR ys)(S:xs.length+ys.length<=5000000000)(hr:w'.ownsRow w1.heap.size 259 3 v' (xs.length+ys.length) (Ti.rcells xs++Ti.rcells ys))(Y:wr.grownBy w' rv.ownBlock):Spst w w1 w' v' lv (xs++ys) ps:=by
 have k:∀g,g<wr.heap.size->rv.ownBlock≠some g->w'.heap[g]?=wr.heap[g]?:=fun g D Z=>Y.block g D (fun e=>Z e.symm);have B:∀g,rv.ownBlock=some g->w1.heap.size<=g:=fun g Q=>(h.rng.2.2.lt g Q).1;refine⟨h.bel.grown Y h.bel.size (fun g Q=>Nat.le_trans u6j (B g Q)),Nat.le_trans h.sz Y.size,h.s1,fun g D Z=>?_,h.res,⟨fun x hx=>?_,u7C,F1X⟩,⟨x0u h.rcs.1 fun g Q=>k g (h.rcs.1.lt g Q).2 (x0M h.rcs.1 h.rng.2.2 e8N Q),fun p A=>?_⟩,h.lvb⟩
 ·rw[k g E8c (fun e=>by have:=B g e;exact f6J)];exact h.old g D Z
 ·rcases List.mem_append.1 hx with hx | hx
  ·exact h.rng.1 x hx
  ·exact hy x hx
 ·have i:=h.rcs.2 p A;exact i.keep fun g Q=>k g (i.2.2.lt g Q).2 (x0M i.2.2 h.rng.2.2 e8N Q)
theorem Spst.more(h:Spst w w1 wr rv lv xs ps)(K:Ok .i32 21 wr w.heap.size vt r.to){gg cap:Nat}(hr:w'.ownsRow w.heap.size 67 8 (.slice (some ⟨gg,0,none⟩) (ps.length+1) cap) (ps.length+1) (rcells ps++x0y (r,vt)))(Y:(wr.alloc o).grownBy w' lv.ownBlock)(q:lv.ownBlock=some gg\/gg=wr.heap.size+1):Spst w w1 w' rv (.slice (some ⟨gg,0,none⟩) (ps.length+1) cap) xs (ps++[(r,vt)]):=by
 have X:=h.bel.size;have I:=h.sz;have N:=h.s1
 have k:∀g,g<wr.heap.size->lv.ownBlock≠some g->w'.heap[g]?=wr.heap[g]?:=fun g D Z=>by
  rw[Y.block g e4I (fun e=>Z e.symm)];exact((Below.refl wr.heap.size wr).alloc (l0r _) o).block g D
 refine⟨(h.bel.alloc X o).grown Y e4I (fun g Q=>(h.rcs.1.lt g Q).1),Nat.le_trans I (by have:=Y.size;rw[World.size_alloc]at this;exact f6J),N,fun g D Z=>?_,h.res,⟨h.rng.1,h.rng.2.1,x0u h.rng.2.2 fun g Q=>k g (h.rng.2.2.lt g Q).2 (x0M h.rng.2.2 h.rcs.1 e8N Q)⟩,⟨?_,fun p hp=>?_⟩,fun g Q=>?_⟩
 ·rw[k g f6J (fun e=>by rcases h.lvb g e with h3 | h3<;>omega)];exact h.old g D Z
 ·rw[x3N]at hr;simpa using hr
 ·rcases List.mem_append.1 hp with hp | hp
  ·have i:=h.rcs.2 p hp;exact i.keep fun g Q=>k g (i.2.2.lt g Q).2 (x0M i.2.2 h.rcs.1 e8N Q)
  ·simp only[List.mem_singleton]at hp;subst hp;exact K.keep fun g Q=>k g (K.2.2.lt g Q).2 (x0M K.2.2 h.rcs.1 e8N Q)
 ·simp only[Value.ownBlock,Option.some.injEq]at Q;subst Q;rcases q with h3 | h3
  ·exact h.lvb _ h3
  ·exact e5w
end
theorem z6e(w:World):∃W1 b,w.alloc (.cells #[.pointer none,.slice none 0 0] 138)=W1/\W1.alloc (.cells #[.int .i64 0,.int .i64 0,.int .i64 0,.int .i64 0,.slice none 0 0,.string ⟨#[]⟩,.string ⟨#[]⟩,.float .f64 0] 67)=b/\Bw w b/\W1.heap.size=w.heap.size+1/\b.heap.size=w.heap.size+2/\∀w1,Bw b w1->Spst w w1 w1 (.slice none 0 0) (.slice (some ⟨w.heap.size+1,0,none⟩) 1 1) [] [(Cn.none,.slice none 0 0)]:=by
 refine⟨_,_,rfl,rfl,((b0r).alloc (l0r _) _).alloc M7N _,World.size_alloc _ _,by rw[World.size_alloc,World.size_alloc],fun w1 C=>?_⟩;have X:=C.size;rw[World.size_alloc,World.size_alloc]at X;have U:Bw w ((w.alloc (.cells #[.pointer none,.slice none 0 0] 138)).alloc (.cells #[.int .i64 0,.int .i64 0,.int .i64 0,.int .i64 0,.slice none 0 0,.string ⟨#[]⟩,.string ⟨#[]⟩,.float .f64 0] 67)):=((b0r).alloc (l0r _) _).alloc M7N _;refine⟨x0b U C,l0r _,f6J,fun g _ _=>rfl,?_,Or4.nil _ _,⟨⟨rfl,.inr ⟨w.heap.size+1,1,#[.int .i64 0,.int .i64 0,.int .i64 0,.int .i64 0,.slice none 0 0,.string ⟨#[]⟩,.string ⟨#[]⟩,.float .f64 0],rfl,f6J,?_,l0r _,T7W,rfl,rfl⟩⟩,fun p A=>?_⟩,fun g Y=>?_⟩
 ·rw[C.block _ E3k];exact n9Y
 ·rw[C.block _ E3k];show((w.heap.push _).push _)[w.heap.size+1]?=_;rw[Array.getElem?_push,if_pos M7N]
 ·simp only[List.mem_singleton]at A;subst A;exact Ok.nil _ _ _ _
 ·simp only[Value.ownBlock,Option.some.injEq]at Y;exact .inl Y.symm
theorem z8c(k:Nat)(z:Int)(h:[Value.int .i64 0,.int .i64 0,.int .i64 0,.int .i64 0,.slice none 0 0,.string ⟨#[]⟩,.string ⟨#[]⟩,.float .f64 0][k]?=some (.int .i32 z)):False:=by grind
theorem z8S{w1 W:World}{B:Nat}(l:w1.heap[B]?=some (.cells #[.int .i64 0,.int .i64 0,.int .i64 0,.int .i64 0,.slice none 0 0,.string ⟨#[]⟩,.string ⟨#[]⟩,.float .f64 0] 67 (0,0)))(G:∀g,g<w1.heap.size->g≠B->W.heap[g]?=w1.heap[g]?){y:Value}{zs:List Int}(h:Sk .i32 w1 y zs):Sk .i32 W y zs:=by
 obtain⟨D,Z,R⟩:=h;refine⟨D,Z,?_⟩;rcases R with R | ⟨b,P,M,e,A,z,s⟩
 ·exact .inl R
 ·refine .inr ⟨b,P,M,e,A,z,fun i hi=>?_⟩;have I:=s i hi
  have F:b≠B:=fun e=>by
   subst e;rw[x9g .i32 zs i w3y]at I;simp only[World.cell?,l]at I;exact z8c _ _ v0A
  rw[World.cell?_of_block (G b (x0a I) F)];exact I
theorem z2i{w:World}{B e K n:Nat}{v:Value}{us:List Value}(h:w.ownsRow B e K v n us){g:Nat}(Y:v.ownBlock=some g):∃P,w.heap[g]?=some (.cells P e (0,0)):=by
 rcases h.2 with⟨rfl,_⟩ | ⟨c,M,P,rfl,_,t,_⟩
 ·cases Y
 ·simp only[Value.ownBlock,Option.some.injEq]at Y;subst Y;exact⟨P,t⟩
theorem y9W{w:World}{B e S K n g:Nat}{v:Value}{us:List Value}{P:Array Value}(h:w.ownsRow B e K v n us)(t:w.heap[g]?=some (.cells P S (0,0)))(F:e≠S):v.ownBlock≠some g:=fun Y=>by
 obtain⟨c,I⟩:=z2i h Y;rw[t]at I;simp only[Option.some.injEq,Obj.cells.injEq]at I;exact F I.2.1.symm
theorem x4E{w:World}{g:Nat}{c0 A z s K c C G:Value}(h:w.heap[g]?=some (.cells #[c0,A,z,s,K,c,C,G] 67 (0,0))):w.cell? ⟨g,0,none⟩=some c0/\w.cell? ⟨g,1,none⟩=some A/\w.cell? ⟨g,2,none⟩=some z/\w.cell? ⟨g,3,none⟩=some s/\w.cell? ⟨g,4,none⟩=some K/\w.cell? ⟨g,5,none⟩=some c/\w.cell? ⟨g,6,none⟩=some C/\w.cell? ⟨g,7,none⟩=some G :=
 ⟨cell_of (j:=0) h s5q,cell_of (j:=1) h G0Z,cell_of (j:=2) h V3Y,cell_of (j:=3) h e8d,cell_of (j:=4) h e2Z,cell_of (j:=5) h i3Z,cell_of (j:=6) h F4N,cell_of (j:=7) h U3A⟩
def y6g(w:World)(v:Value)(xs:List Tri.Rg)(e:Ending)(w':World):Prop:=∃a m,e=.returned (.pointer (some a))/\m.Perm xs/\(m.Pairwise fun x y=>Tri.lo x<=Tri.lo y)/\T4 w' w.heap.size (.pointer (some a)) m 0/\w.grownBy w' v.ownBlock
theorem y4R{a b c:World}{row:Option Nat}(h:a.grownBy b row)(k:Bw b c):a.grownBy c row:=by
 refine⟨k.os.trans h.os,k.tape.trans h.tape,k.output.trans h.output,Nat.le_trans h.size k.size,fun g D Z=>?_⟩;rw[k.block g (Nat.lt_of_lt_of_le D h.size)];exact h.block g D Z
theorem y4m(B:Nat)(w:World)(v:Value)(xs:List Tri.Rg)(h:Or4 w B v xs)(S:xs.length<=5000000000)(N:∀m:List Tri.Rg,m.Perm xs->(m.Pairwise fun x y=>Tri.lo x<=Tri.lo y)->Tri.Val 0 m):Calls prog 138 #[v] w (y6g w v xs):=by
 have i:=O (y1d w B v xs h S);have j:=O N;obtain⟨s,M,rfl,_,_⟩:=h.sr.shape;go_enter func138,ntmps138;go_wp2_with fail;refine(V i).mono ?_;rintro P w1 ⟨rfl,ys,A,H,Z,Y⟩;have t:=V j ys A H;have C:=O (z3b _ ys 0 w1 Z ⟨f6J,f6J⟩);have I:(Tri.check 0 ys).2=0:=Tri.x3Y.2 ⟨t,f6J,f6J⟩;have D:=O I;have l:=O A;have J:=O H;have W:=O Y;go_wp2_with fail;refine(V C).mono ?_;rintro f G ⟨F,⟨_,a,rfl,E⟩ | ⟨L,_⟩⟩
 ·have T:y6g w (.slice s xs.length M) xs (.returned (.pointer (some a))) G:=⟨a,ys,rfl,V l,V J,E.lower (V W).size,y4R (V W) F⟩;exact U7G
 ·exact absurd (V D) L
theorem Spst.fin{w w1 wr q:World}{rv lv:Value}{xs:List Tri.Rg}{ps:List (Rec×Value)}(h:Spst w w1 wr rv lv xs ps)(Y:wr.grownBy q rv.ownBlock){a:Addr}{m:List Tri.Rg}(C:T4 q wr.heap.size (.pointer (some a)) m 0) :
  q.heap[w.heap.size]?=some (.cells #[.pointer none,.slice none 0 0] 138 (0,0)) /\
  ((q.setCell ⟨w.heap.size,0,none⟩ (.pointer (some a))).setCell ⟨w.heap.size,1,none⟩ lv).heap[w.heap.size]?=some (.cells #[.pointer (some a),lv] 138 (0,0)) /\
  T4 ((q.setCell ⟨w.heap.size,0,none⟩ (.pointer (some a))).setCell ⟨w.heap.size,1,none⟩ lv) w.heap.size (.pointer (some a)) m 0/\Rown ((q.setCell ⟨w.heap.size,0,none⟩ (.pointer (some a))).setCell ⟨w.heap.size,1,none⟩ lv) w.heap.size lv ps /\
  Bw w ((q.setCell ⟨w.heap.size,0,none⟩ (.pointer (some a))).setCell ⟨w.heap.size,1,none⟩ lv):=by
 have J:=h.s1;have K:=h.sz;have k:∀g,g<wr.heap.size->rv.ownBlock≠some g->q.heap[g]?=wr.heap[g]?:=fun g D Z=>Y.block g D (fun e=>Z e.symm);have B:∀g,rv.ownBlock=some g->w1.heap.size<=g:=fun g Q=>(h.rng.2.2.lt g Q).1
 have R:q.heap[w.heap.size]?=some (.cells #[.pointer none,.slice none 0 0] 138 (0,0)):=by
  rw[k _ f6J (fun e=>by have:=B _ e;exact f6J),h.old _ f6J f6J];exact h.res
 have X:Rown q w.heap.size lv ps:=⟨x0u h.rcs.1 fun g Q=>k g (h.rcs.1.lt g Q).2 (x0M h.rcs.1 h.rng.2.2 e8N Q),fun p A=>(h.rcs.2 p A).keep fun g Q=>k g ((h.rcs.2 p A).2.2.lt g Q).2 (x0M (h.rcs.2 p A).2.2 h.rng.2.2 e8N Q)⟩;have S:∀g,g≠w.heap.size->((q.setCell ⟨w.heap.size,0,none⟩ (.pointer (some a))).setCell ⟨w.heap.size,1,none⟩ lv).heap[g]?=q.heap[g]?:=fun g F=>(by rw[x0g _ F,x0g _ F]);have x:Bw w q:=h.bel.grown Y h.bel.size (fun g Q=>by have:=B g Q;exact f6J);refine⟨R,?_,?_,⟨x0u X.1 fun g Q=>S g (fun e=>y9W X.1 R e8N (by rw[Q,e])),fun p A=>(X.2 p A).keep fun g Q=>S g (fun e=>y9W (X.2 p A).2.2 R e8N (by rw[Q,e]))⟩,x0d (x0d x (l0r _) _) (l0r _) _⟩
 ·rw[x0f (x0f R _)];rfl
 ·exact T4.lower (C.keep (by rw[x1a,x1a];exact l0r _) fun g D _=>S g f6J) f6J
open Go.RowKit Go.MapKept Go.WideMaps
open Go.ChangeMaps (setBlock)
theorem x3Q{w:World}{b:Nat}{o:Obj}(h:b<w.heap.size):(setBlock w b o).heap[b]?=some o:=by
 show(w.heap.setIfInBounds b o)[b]?=_;simp[h]
theorem x0q{w:World}{b g:Nat}{o:Obj}(h:g≠b):(setBlock w b o).heap[g]?=w.heap[g]?:=by
 show(w.heap.setIfInBounds b o)[g]?=_;simp[Ne.symm h]
theorem x1H(w:World)(b:Nat)(o:Obj):(setBlock w b o).heap.size=w.heap.size:=by
 show(w.heap.setIfInBounds b o).size=_;simp
theorem x3G{B:Nat}{a w:World}(h:Below B a w){b:Nat}(C:B<=b)(o:Obj):Below B a (setBlock w b o):=by
 refine⟨h.os,h.tape,h.output,?_,fun g Y=>?_⟩
 ·rw[x1H];exact h.size
 ·rw[x0q f6J];exact h.block g Y
structure Cst(w wr:World)(lp ls:List Rec):Prop where
 bel:Below w.heap.size w wr
 sz:w.heap.size+4<=wr.heap.size
 res:wr.heap[w.heap.size]?=some (.cells #[.map none,.map none] 149 (0,0))
 hx:wr.heap[w.heap.size+3]?=some (.cells #[.map (some (w.heap.size+1)),.map (some (w.heap.size+2))] 149 (0,0))
 mp:GAt KP wr (w.heap.size+1) (x3u lp)
 ms:GAt KR wr (w.heap.size+2) (secC ls)
section
variable {w wr w':World} {lp ls lp' ls':List Rec}
theorem Cst.below(h:Cst w wr lp ls)(C:Bw wr w'):Cst w w' lp ls:=by
 have K:=h.sz;obtain⟨N,A,S,B⟩:=h.mp;obtain⟨f,z,J,d⟩:=h.ms;exact⟨x0b h.bel C,Nat.le_trans K C.size,by rw[C.block _ f6J];exact h.res,by rw[C.block _ f6J];exact h.hx,⟨N,A,by rw[C.block _ f6J];exact S,B⟩,⟨f,z,by rw[C.block _ f6J];exact J,d⟩⟩
theorem Cst.pair(h:Cst w wr lp ls){A:Array MapEntry}{cl:Nat}(Y:GObj KP A cl (x3u lp')):Cst w (setBlock wr (w.heap.size+1) (.map A cl)) lp' ls:=by
 have K:=h.sz;obtain⟨f,z,J,d⟩:=h.ms;exact⟨x3G h.bel f6J _,s8S,n7Y,m4C,⟨A,cl,x3Q f6J,Y⟩,⟨f,z,by rw[x0q f6J];exact J,d⟩⟩
theorem Cst.second(h:Cst w wr lp ls){A:Array MapEntry}{cl:Nat}(Y:GObj KR A cl (secC ls')):Cst w (setBlock wr (w.heap.size+2) (.map A cl)) lp ls':=by
 have K:=h.sz;obtain⟨f,z,J,d⟩:=h.mp;exact⟨x3G h.bel f6J _,s8S,n7Y,m4C,⟨f,z,by rw[x0q f6J];exact J,d⟩,⟨A,cl,x3Q f6J,Y⟩⟩
def CmpB(w:World)(rs:List Rec)(e:Ending)(w':World):Prop:=∃r1 r2,e=.returned (.agg #[.map (some r1),.map (some r2)])/\w.heap.size<=r1/\w.heap.size<=r2/\GAt KP w' r1 (x3u rs)/\GAt KR w' r2 (secC rs)/\Below w.heap.size w w'
theorem Cst.fin(h:Cst w wr lp lp):((wr.setCell ⟨w.heap.size,0,none⟩ (.map (some (w.heap.size+1)))).setCell ⟨w.heap.size,1,none⟩ (.map (some (w.heap.size+2)))).heap[w.heap.size]?=some (.cells #[.map (some (w.heap.size+1)),.map (some (w.heap.size+2))] 149 (0,0)) /\
  CmpB w lp (.returned (.agg #[.map (some (w.heap.size+1)),.map (some (w.heap.size+2))])) ((wr.setCell ⟨w.heap.size,0,none⟩ (.map (some (w.heap.size+1)))).setCell ⟨w.heap.size,1,none⟩ (.map (some (w.heap.size+2)))):=by
 have K:=h.sz;have S:∀g,g≠w.heap.size->((wr.setCell ⟨w.heap.size,0,none⟩ (.map (some (w.heap.size+1)))).setCell ⟨w.heap.size,1,none⟩ (.map (some (w.heap.size+2)))).heap[g]?=wr.heap[g]?:=fun g F=>(by rw[x0g _ F,x0g _ F]);obtain⟨N,A,C,B⟩:=h.mp;obtain⟨f,z,J,d⟩:=h.ms;refine⟨by rw[x0f (x0f h.res _)];rfl,_,_,rfl,f6J,f6J,⟨N,A,by rw[S _ f6J];exact C,B⟩,⟨f,z,by rw[S _ f6J];exact J,d⟩,x0d (x0d h.bel (l0r _) _) (l0r _) _⟩
end
theorem z4s(w:World):∃W1 b q x,w.alloc (.cells #[.map none,.map none] 149)=W1/\W1.alloc (.map #[] 0)=b/\b.alloc (.map #[] 0)=q/\q.alloc (.cells #[.map (some (w.heap.size+1)),.map (some (w.heap.size+2))] 149)=x/\W1.heap.size=w.heap.size+1/\b.heap.size=w.heap.size+2/\q.heap.size=w.heap.size+3/\Cst w x [] []:=by
 refine⟨_,_,_,_,rfl,rfl,rfl,rfl,M7N,M7N,M7N,?_⟩;have C:Bw w ((((w.alloc (.cells #[.map none,.map none] 149)).alloc (.map #[] 0)).alloc (.map #[] 0)).alloc (.cells #[.map (some (w.heap.size+1)),.map (some (w.heap.size+2))] 149)):=((((b0r).alloc (l0r _) _).alloc M7N _).alloc P8P _).alloc P8P _;refine⟨C,M7N,?_,?_,⟨#[],0,?_,y7T _ _ y9e⟩,⟨#[],0,?_,y7T _ _ z2z⟩⟩
 ·show((((w.heap.push _).push _).push _).push _)[w.heap.size]?=_;rw[Array.getElem?_push,Array.getElem?_push,Array.getElem?_push,Array.getElem?_push];simp only[Array.size_push];rw[if_neg f6J,if_neg f6J,if_neg f6J,if_pos trivial]
 ·show((((w.heap.push _).push _).push _).push _)[w.heap.size+3]?=_;rw[Array.getElem?_push,Array.getElem?_push,Array.getElem?_push,Array.getElem?_push];simp only[Array.size_push];rw[if_pos trivial]
 ·show((((w.heap.push _).push _).push _).push _)[w.heap.size+1]?=_;rw[Array.getElem?_push,Array.getElem?_push,Array.getElem?_push,Array.getElem?_push];exact m7X
 ·show((((w.heap.push _).push _).push _).push _)[w.heap.size+2]?=_;rw[Array.getElem?_push,Array.getElem?_push,Array.getElem?_push,Array.getElem?_push];exact v6h
open Go.RowKit Go.MapKept Go.WideMaps
open Go.ChangeMaps (setBlock)
structure Cbx(W:World)(g x m1 m2 b off:Nat)(lo p q:Int)(vt:Value):Prop where
 lo:W.cell? ⟨g,1,none⟩=some (.int .i64 lo)
 lst:W.cell? ⟨g,4,none⟩=some vt
 x0:W.cell? ⟨x,0,none⟩=some (.map (some m1))
 x1:W.cell? ⟨x,1,none⟩=some (.map (some m2))
 a:W.cell? ⟨b,off,none⟩=some (.int .i32 p)
 b:W.cell? ⟨b,off+1,none⟩=some (.int .i32 q)
theorem Cbx.block{W:World}{g x S B b off r:Nat}{lo p q:Int}{vt:Value}(h:Cbx W g x S B b off lo p q vt){A:Array MapEntry}{cl:Nat}(o:Obj)(hr:W.heap[r]?=some (.map A cl)):Cbx (setBlock W r o) g x S B b off lo p q vt:=by
 have k:∀c j v,W.cell? ⟨c,j,none⟩=some v->(setBlock W r o).cell? ⟨c,j,none⟩=some v:=fun c j v I=>W2D
 exact⟨k _ _ _ h.lo,k _ _ _ h.lst,k _ _ _ h.x0,k _ _ _ h.x1,k _ _ _ h.a,k _ _ _ h.b⟩
theorem Cbx.drew{W:World}{g x S B b off:Nat}{lo p q:Int}{vt:Value}(h:Cbx W g x S B b off lo p q vt):Cbx W.drew g x S B b off lo p q vt:=⟨h.lo,h.lst,h.x0,h.x1,h.a,h.b⟩
theorem y1j(t:TypeId)(W:World):(Instr.makeMap t none).run prog W=.ok (.map (some W.heap.size)) (W.alloc (.map #[] 0)):=by
 simp[Instr.makeMap,Result.andThen]
theorem z2T(w:World):(zeroValue 21).run prog w=.ok (.int .i32 0) w:=by
 obtain⟨i,D,Z,_,_⟩:=info_parts Tryz.info21;exact u2U
theorem Tryz.info93:(prog.info? 3).map (fun i=>(i.zero,i.size,i.bytes))=some (some (.int .i64 0),1,8):=f4x
theorem z2U(w:World):(zeroValue 3).run prog w=.ok (.int .i64 0) w:=by
 obtain⟨i,D,Z,_,_⟩:=info_parts Tryz.info93;exact u2U
theorem z2y(l:List Rec)(b:Int):(secC l (.int .i32 b)).getD (.int .i64 0)=.int .i64 (Cn.secOf l b:Nat):=by
 show(if Cn.secOf l b=0 then none else some (Value.int .i64 (Cn.secOf l b:Nat))).getD _=_;by_cases h:Cn.secOf l b=0
 ·rw[if_pos h,h];rfl
 ·rw[if_neg h];rfl
theorem x4a(v:Value)(rs:List Rec)(w:World)(hv:Rcs w v rs)(y:∀r∈rs,r.kind=7->r.to.length=2/\0<=r.lo/\r.lo<=1114111)(hl:rs.length<=4096):Calls prog 88 #[v] w (CmpB w rs):=by
 obtain⟨W1,W2,W3,W4,aU,aV,aW,aX,ba,be,bA,H⟩:=z4s w;have bm:=hv.1;obtain⟨ao,aR,E,_,_⟩:=hv.shape
 have ae:Hid (∀k W,k<rs.length->Bw w W->∃b P,v=.slice (some ⟨b,P,none⟩) rs.length aR/\RecAt W b (P+k*8) (rs.getD k Cn.none)/\RecFit (rs.getD k Cn.none)):=fun k W G hW=>by
  obtain⟨b,P,bj,he,_,_,hc⟩:=(hv.below hW).place f6J;rw[E]at he;obtain⟨e1,e2,e3⟩:=Value.slice.inj he;refine⟨b,P,?_,hc k G,(hv.below hW).fit G⟩;rw[E,e1]
 have ar:Hid (∀k,k<rs.length->rs.take (k+1)=rs.take k++[rs.getD k Cn.none]/\rs.getD k Cn.none∈rs):=fun k G=>by
  refine⟨?_,?_⟩
  ·rw[List.take_add_one];simp[List.getD,G]
  ·simp[List.getD,G]
 have Z:=O y;have aA:=O H;clear hv y H;subst E;have aZ:=y1j;go_enter func88,ntmps88;go_wp2;clear aZ;go_loopw[5,11] (fun _ iv wr=>∃k:Nat,iv=.int .i64 k/\k<=rs.length/\Cst w wr (rs.take k) (rs.take k)) (fun _ iv _=>rs.length-(intOf iv).toNat)
 case atStart=>exact⟨0,rfl,f6J,V aA⟩
 case round =>
  obtain⟨k,rfl,G,hC⟩:=hrel;clear aA aU aV aW aX ba be;by_cases aJ:k<rs.length
  ·obtain⟨b,P,he,hA,ai⟩:=V ae k wr aJ hC.bel;obtain⟨q1,_,_⟩:=Value.slice.inj he;clear he;subst q1;obtain⟨aD,g⟩:=V ar k aJ;have p:=V Z _ g;obtain⟨x0,x1,x2,x3,⟨va,x4,c⟩,x5,x6,x7⟩:=hA;obtain⟨aN,L,rfl,_,_⟩:=c.shape;clear ae ar Z g;generalize rs.getD k Cn.none=r at *;obtain⟨f,aG⟩:∃f,wr.alloc (.cells #[.int .i64 r.kind,.int .i64 r.lo,.int .i64 r.hi,.int .i64 r.n,.slice aN r.to.length L,.string r.name,.string r.other,.float .f64 r.wt] 67)=f:=⟨_,rfl⟩;have D:Bw wr f:=by rw[<- aG];exact(b0r).alloc (l0r _) _
   have C:f.heap[wr.heap.size]?=some (.cells #[.int .i64 r.kind,.int .i64 r.lo,.int .i64 r.hi,.int .i64 r.n,.slice aN r.to.length L,.string r.name,.string r.other,.float .f64 r.wt] 67 (0,0)):=by
    rw[<- aG];exact s6Q
   have aF:=hC.below D;have bw:∀W a m,(store a (.float .f64 r.wt) m).run prog W=stored prog W a (.float .f64 r.wt) m:=fun W a m=>run_store prog W a _ m rfl;obtain⟨z0,z1,z2,z3,z4,z5,z6,z7⟩:=x4E C;have l:=O aF;have I:=O (c.below D);have bu:=ai.lo;clear hC aF c D C ai;by_cases h7:r.kind=7
   ·obtain⟨t2,l0,l1⟩:=p h7;have aL:Rune (r.to.getD 0 0):=x1c (V I) f6J;have aM:Rune (r.to.getD 1 0):=x1c (V I) f6J
    have B:Hid (x3u (rs.take k++[r]) (pk2 (r.to.getD 0 0) (r.to.getD 1 0))=some (.int .i32 r.lo)):=by
     show x3u (rs.take k++[r]) (pk2 (r.to.getD 0 0) (r.to.getD 1 0))=_;have hp:Cn.isP (r.to.getD 0 0) (r.to.getD 1 0) r=true:=d0t ⟨h7,rfl,rfl⟩;rw[y3G,Cn.x6P,if_pos hp];rfl
    have af:Hid (∀x,x≠pk2 (r.to.getD 0 0) (r.to.getD 1 0)->x3u (rs.take k++[r]) x=x3u (rs.take k) x):=fun x hx=>x6O fun a b e q=>hx (by rw[e,<- q.2.1,<- q.2.2])
    have ag:Hid (secC (rs.take k++[r]) (.int .i32 (r.to.getD 1 0))=some (.int .i64 ((Cn.secOf (rs.take k) (r.to.getD 1 0):Nat)+1))):=by
     show(if Cn.secOf (rs.take k++[r]) (r.to.getD 1 0)=0 then none else some (Value.int .i64 (Cn.secOf (rs.take k++[r]) (r.to.getD 1 0):Nat)))=_
     have hs:Cn.secOf (rs.take k++[r]) (r.to.getD 1 0)=Cn.secOf (rs.take k) (r.to.getD 1 0)+1:=by
      rw[Cn.x8n,if_pos (And.intro h7 rfl)]
     rw[hs,if_neg f6J];rfl
    have N:Hid (∀x,x≠Value.int .i32 (r.to.getD 1 0)->secC (rs.take k++[r]) x=secC (rs.take k) x):=fun x hx=>x8m fun b e q=>hx (by rw[e,<- q.2]);have am:=Cn.z2A (rs.take k) (r.to.getD 1 0);have bn:Cn.secOf (rs.take k) (r.to.getD 1 0)<=4096:=(by rw[List.length_take]at am;exact f6J);obtain⟨A,u,pc,aK,_,_,ay⟩:=(V I).place f6J;have ya:=ay 0 f6J;have yb:=ay 1 f6J;rw[Nat.add_zero]at ya;obtain⟨e1,_,e3⟩:=Value.slice.inj aK;subst e1;subst e3;have hX:=(V l).hx;have aq:Hid (Cbx f wr.heap.size (w.heap.size+3) (w.heap.size+1) (w.heap.size+2) A u r.lo (r.to.getD 0 0) (r.to.getD 1 0) (.slice (some ⟨A,u,none⟩) r.to.length L)):=⟨z1,z4,cell_of (j:=0) hX n6a,cell_of (j:=1) hX w2h,ya,yb⟩;obtain⟨es,cl,hu,aI⟩:=x8O (w:=f.drew) (M:=146) klP underlying146 (r:=w.heap.size+1) (V l).mp ⟨_,_,rfl,aL,aM⟩ (V B) (V af);have R:Hid (Cst w (setBlock f.drew (w.heap.size+1) (.map es cl)) (rs.take k++[r]) (rs.take k)):=((V l).below (x0k ⟨1,rfl⟩)).pair aI
    have Q:Hid (Cbx (setBlock f.drew (w.heap.size+1) (.map es cl)) wr.heap.size (w.heap.size+3) (w.heap.size+1) (w.heap.size+2) A u r.lo (r.to.getD 0 0) (r.to.getD 1 0) (.slice (some ⟨A,u,none⟩) r.to.length L)):=by
     obtain⟨aT,aS,i,_⟩:=(V l).mp;exact(V aq).drew.block _ i
    have bp:IntKind.i32.wrap r.lo=r.lo:=(by rw[IntKind.wrap_i32];exact f6J);have bB:((Cn.secOf (rs.take k) (r.to.getD 1 0):Nat):Int)+1<=5000:=f6J;unfold pk2 at hu;clear aI B af ay aK ya yb hX I p am aL aM;rw[t2]at *;generalize r.to.getD 0 0=pa,r.to.getD 1 0=t at *;generalize hsn:Cn.secOf (rs.take k) t=sn at *;have aQ:=O hsn;clear hsn;generalize hkd:r.kind=kd at *;have aY:(kd==7)=true:=(by rw[beq_iff_eq];exact h7);clear hkd h7;go_wp2;clear x0 x1 x2 x3 x4 x5 x6 x7 z0 z1 z2 z3 z4 z5 z6 z7;refine wp_region_held_drew (S:=fun w'=>Cbx w' wr.heap.size (w.heap.size+3) (w.heap.size+1) (w.heap.size+2) A u r.lo pa t (.slice (some ⟨A,u,none⟩) 2 L)) f4y (V aq).drew (fun hHeld=>?_);refine tk9 0 (.pointer (some ⟨w.heap.size+3,0,none⟩)) ?_ (hy:=t4i);refine tk9 1 (.map (some (w.heap.size+1))) ?_ (hy:=t4i);refine tk9 2 (.pointer (some ⟨wr.heap.size,4,none⟩)) ?_ (hy:=t4i);refine tk9 3 (.slice (some ⟨A,u,none⟩) 2 L) ?_ (hy:=t4i);refine tk9 4 (.pointer (some ⟨A,u,none⟩)) ?_ (hy:=t4i);refine tk9 5 (.int .i32 pa) ?_ (hy:=t4i);refine tk9 6 (.pointer (some ⟨wr.heap.size,4,none⟩)) ?_ (hy:=t4i);refine tk9 7 (.slice (some ⟨A,u,none⟩) 2 L) ?_ (hy:=t4i);refine tk9 8 (.pointer (some ⟨A,u+1,none⟩)) ?_ (hy:=t4i);refine tk9 9 (.int .i32 t) ?_ (hy:=t4i);refine tk9 10 (.agg #[.int .i32 pa,.int .i32 t]) ?_ (hy:=t4i);refine tk9 11 (.pointer (some ⟨wr.heap.size,1,none⟩)) ?_ (hy:=t4i);refine tk9 12 (.int .i64 r.lo) ?_ (hy:=t4i);refine tk9 13 (.int .i32 r.lo) ?_ (hy:=t4i);refine rd9 14 fun K hK=>?_;go_simp;refine hK.out _ _ ?_ (fun hHeld=>?_)
    ·exact V Q
    clear hK K;refine wpAnyH_done f4y ?_ _;clear hHeld hu aq l;generalize setBlock f.drew (w.heap.size+1) (.map es cl)=W5 at *;have s:=(z3g (w:=W5.drew) (M:=147) (z:=.int .i64 0) klR underlying147 z2U (r:=w.heap.size+2) (V R).ms ⟨t,rfl⟩).2;rw[z2y,V aQ]at s;obtain⟨U,aw,bh,aj⟩:=x8O (w:=W5.drew) (M:=147) klR underlying147 (r:=w.heap.size+2) (V R).ms ⟨t,rfl⟩ (V ag) (V N);have aP:Hid (Cst w (setBlock W5.drew (w.heap.size+2) (.map U aw)) (rs.take k++[r]) (rs.take k++[r])):=((V R).below (x0k ⟨1,rfl⟩)).second aj
    have az:Hid (Cbx (setBlock W5.drew (w.heap.size+2) (.map U aw)) wr.heap.size (w.heap.size+3) (w.heap.size+1) (w.heap.size+2) A u r.lo pa t (.slice (some ⟨A,u,none⟩) 2 L)):=by
     obtain⟨aT,aS,i,_⟩:=(V R).ms;exact(V Q).drew.block _ i
    have ab:Hid (Cbx W5.drew wr.heap.size (w.heap.size+3) (w.heap.size+1) (w.heap.size+2) A u r.lo pa t (.slice (some ⟨A,u,none⟩) 2 L)):=(V Q).drew;have bt:IntKind.i64.wrap ((sn:Int)+1)=(sn:Int)+1:=(by rw[IntKind.wrap_i64];exact f6J);clear aj ag N R Q;go_wp2;refine wp_region_held_drew (S:=fun w'=>Cbx w' wr.heap.size (w.heap.size+3) (w.heap.size+1) (w.heap.size+2) A u r.lo pa t (.slice (some ⟨A,u,none⟩) 2 L)) f4y (V ab) (fun hHeld=>?_);refine tk9 0 (.pointer (some ⟨w.heap.size+3,1,none⟩)) ?_ (hy:=t4i);refine tk9 1 (.map (some (w.heap.size+2))) ?_ (hy:=t4i);refine tk9 2 (.pointer (some ⟨wr.heap.size,4,none⟩)) ?_ (hy:=t4i);refine tk9 3 (.slice (some ⟨A,u,none⟩) 2 L) ?_ (hy:=t4i);refine tk9 4 (.pointer (some ⟨A,u+1,none⟩)) ?_ (hy:=t4i);refine tk9 5 (.int .i32 t) ?_ (hy:=t4i);refine rd9 6 fun K hK=>?_;go_simp;refine hK.out _ _ ?_ (fun hHeld=>?_)
    ·exact V ab
    clear hK K
    try simp only[Act.put,sa9,sb9,sc9]
    refine tk9 7 (.int .i64 ((sn:Int)+1)) ?_;refine rd9 8 fun K hK=>?_;go_simp;refine hK.out _ _ ?_ (fun hHeld=>?_)
    ·exact V az
    clear hK K;refine wpAnyH_done f4y ?_ _;clear hHeld bh s ab az;generalize setBlock W5.drew (w.heap.size+2) (.map U aw)=W7 at *;go_wp2
    go_roundw
    case rel=>exact⟨k+1,g2D,f6J,by rw[aD];exact V aP⟩
    case measure=>exact g7V
   ·have aY:(r.kind==7)=false:=b0f h7
    have aO:Hid (Cst w f (rs.take k++[r]) (rs.take k++[r])):=by
     have hp:x3u (rs.take k++[r])=x3u (rs.take k):=funext fun v=>x6O fun a b _ q=>h7 q.1;have hs:secC (rs.take k++[r])=secC (rs.take k):=funext fun v=>x8m fun b _ q=>h7 q.1;have h:=V l;exact⟨h.bel,h.sz,h.res,h.hx,by rw[hp];exact h.mp,by rw[hs];exact h.ms⟩
    clear l I p h7;generalize r.kind=kd at *;go_wp2
    go_roundw
    case rel=>exact⟨k+1,g2D,f6J,by rw[aD];exact V aO⟩
    case measure=>exact g7V
  ·obtain rfl:k=rs.length:=f6J;rw[List.take_of_length_le (l0r _)]at hC;have hX:=hC.hx;have y0:=cell_of (j:=0) hX n6a;have y1:=cell_of (j:=1) hX w2h;have F1:=hC.res;have z0:=cell_of (j:=0) F1 n6a;have z1:=cell_of (j:=1) F1 w2h;have f0:=fun j=>x0e (j:=j) F1;obtain⟨F2,F3⟩:=hC.fin;have aB:=O F2;have aC:=O F3;clear ae ar Z hC hX F1 F2 F3;go_wp2;have X:=V aB;have aH:=V aC;clear aB aC y0 y1 f0 z0 z1;generalize(wr.setCell ⟨w.heap.size,0,none⟩ (.map (some (w.heap.size+1)))).setCell ⟨w.heap.size,1,none⟩ (.map (some (w.heap.size+2)))=bC at *;have z0:=cell_of (j:=0) X n6a;have z1:=cell_of (j:=1) X w2h;refine bodyPost_ret (v:=.agg #[.map (some (w.heap.size+1)),.map (some (w.heap.size+2))]) (by simp[results,Tryz.results88,go_sem,z0,z1]) rfl aH
open Go.RowKit Go.MapKept Go.WideMaps
open Go.ChangeMaps (setBlock)
open Go.Lib (minS maxS run_min_strs run_max_strs)
def MxAt(w:World)(r:Nat):Prop:=∃c,GAt KN w r c
theorem y8K{w:World}{r:Nat}{a b:ByteArray}(h:MxAt w r)(L:Sh a)(C:Sh b)(v:Value):∃A cl,(Instr.mapUpdate 151 (.map (some r)) (pk a b) v).run prog w=.ok () (setBlock w r (.map A cl))/\∃c,GObj KN A cl c:=by
 obtain⟨c,h⟩:=h;have dec:∀x:Value,Decidable (x=pk a b):=fun x=>Classical.propDecidable _;obtain⟨A,cl,D,Z⟩:=x8O (M:=151) (c':=fun x=>@ite _ (x=pk a b) (dec x) (some v) (c x)) klN underlying151 h ⟨a,b,rfl,L,C⟩ (if_pos rfl) (fun x J=>if_neg J);exact⟨A,cl,D,_,Z⟩
theorem x6m(a b:ByteArray)(w:World):Calls prog 140 #[.string a,.string b] w fun e w'=>e=.returned (pk (minS a b) (maxS a b))/\Bw w w':=by
 have D:=@run_min_strs prog;have Z:=@run_max_strs prog;unfold pk;go_enter func140,ntmps140;go_wp2;go_returns;exact⟨rfl,(b0r).alloc (l0r _) _⟩
structure Mst(w wr:World):Prop where
 bel:Below w.heap.size w wr
 sz:w.heap.size+3<=wr.heap.size
 res:wr.heap[w.heap.size]?=some (.cells #[.map none] 153 (0,0))
 hx:wr.heap[w.heap.size+2]?=some (.cells #[.map (some (w.heap.size+1))] 153 (0,0))
 mp:MxAt wr (w.heap.size+1)
theorem Mst.below{w wr w':World}(h:Mst w wr)(C:Bw wr w'):Mst w w':=by
 have K:=h.sz;obtain⟨c,N,A,S,B⟩:=h.mp;exact⟨x0b h.bel C,Nat.le_trans K C.size,by rw[C.block _ f6J];exact h.res,by rw[C.block _ f6J];exact h.hx,c,N,A,by rw[C.block _ f6J];exact S,B⟩
theorem Mst.more{w wr:World}(h:Mst w wr){A:Array MapEntry}{cl:Nat}(Y:∃c,GObj KN A cl c):Mst w (setBlock wr (w.heap.size+1) (.map A cl)):=by
 have K:=h.sz;obtain⟨c,Y⟩:=Y;exact⟨x3G h.bel f6J _,s8S,n7Y,m4C,c,A,cl,x3Q f6J,Y⟩
def MxtB(w:World)(e:Ending)(w':World):Prop:=∃r,e=.returned (.agg #[.map (some r)])/\w.heap.size<=r/\MxAt w' r/\Below w.heap.size w w'
theorem Mst.fin{w wr:World}(h:Mst w wr):(wr.setCell ⟨w.heap.size,0,none⟩ (.map (some (w.heap.size+1)))).heap[w.heap.size]?=some (.cells #[.map (some (w.heap.size+1))] 153 (0,0))/\MxtB w (.returned (.agg #[.map (some (w.heap.size+1))])) (wr.setCell ⟨w.heap.size,0,none⟩ (.map (some (w.heap.size+1)))):=by
 obtain⟨c,N,A,S,B⟩:=h.mp;exact⟨by rw[x0f h.res];rfl,_,rfl,f6J,⟨c,N,A,by rw[x0g _ f6J];exact S,B⟩,x0d h.bel (l0r _) _⟩
theorem z5z(w:World):∃W1 b q,w.alloc (.cells #[.map none] 153)=W1/\W1.alloc (.map #[] 0)=b/\b.alloc (.cells #[.map (some (w.heap.size+1))] 153)=q/\W1.heap.size=w.heap.size+1/\b.heap.size=w.heap.size+2/\Mst w q:=by
 refine⟨_,_,_,rfl,rfl,rfl,M7N,M7N,?_⟩;have C:Bw w (((w.alloc (.cells #[.map none] 153)).alloc (.map #[] 0)).alloc (.cells #[.map (some (w.heap.size+1))] 153)):=(((b0r).alloc (l0r _) _).alloc M7N _).alloc P8P _;refine⟨C,M7N,?_,?_,fun _=>none,#[],0,?_,y7T _ _ fun _=>rfl⟩
 ·show(((w.heap.push _).push _).push _)[w.heap.size]?=_;rw[Array.getElem?_push,Array.getElem?_push,Array.getElem?_push];exact m7X
 ·show(((w.heap.push _).push _).push _)[w.heap.size+2]?=_;rw[Array.getElem?_push,Array.getElem?_push,Array.getElem?_push];simp only[Array.size_push];rw[if_pos trivial]
 ·show(((w.heap.push _).push _).push _)[w.heap.size+1]?=_;rw[Array.getElem?_push,Array.getElem?_push,Array.getElem?_push];exact v6h
structure Mbx(W:World)(g x m1:Nat)(nm ot:ByteArray)(wt:Nat):Prop where
 name:W.cell? ⟨g,5,none⟩=some (.string nm)
 other:W.cell? ⟨g,6,none⟩=some (.string ot)
 wt:W.cell? ⟨g,7,none⟩=some (.float .f64 wt)
 x0:W.cell? ⟨x,0,none⟩=some (.map (some m1))
theorem Mbx.below{W Q:World}{g x S wt:Nat}{Z M:ByteArray}(h:Mbx W g x S Z M wt)(C:Bw W Q):Mbx Q g x S Z M wt :=
 ⟨F6z,U0Y,u7e,R3s⟩
theorem Mbx.block{W:World}{g x S r wt:Nat}{Z M:ByteArray}(h:Mbx W g x S Z M wt){A:Array MapEntry}{cl:Nat}(o:Obj)(hr:W.heap[r]?=some (.map A cl)):Mbx (setBlock W r o) g x S Z M wt:=by
 have k:∀c j v,W.cell? ⟨c,j,none⟩=some v->(setBlock W r o).cell? ⟨c,j,none⟩=some v:=fun c j v I=>W2D
 exact⟨k _ _ _ h.name,k _ _ _ h.other,k _ _ _ h.wt,k _ _ _ h.x0⟩
theorem x7B(v:Value)(rs:List Rec)(w:World)(hv:Rcs w v rs)(y:∀r∈rs,r.kind=15->Sh r.name/\Sh r.other):Calls prog 89 #[v] w (MxtB w):=by
 obtain⟨W1,W2,W3,z,aD,aF,aI,aJ,H⟩:=z5z w;have aL:=hv.1;obtain⟨ao,M,E,_,_⟩:=hv.shape
 have Y:Hid (∀k W,k<rs.length->Bw w W->∃b P,v=.slice (some ⟨b,P,none⟩) rs.length M/\RecAt W b (P+k*8) (rs.getD k Cn.none)):=fun k W hk hW=>by
  obtain⟨b,P,aK,q,_,_,hc⟩:=(hv.below hW).place f6J;rw[E]at q;obtain⟨e1,e2,e3⟩:=Value.slice.inj q;refine⟨b,P,?_,hc k hk⟩;rw[E,e1]
 have Z:Hid (∀k,k<rs.length->(rs.getD k Cn.none).kind=15->Sh (rs.getD k Cn.none).name/\Sh (rs.getD k Cn.none).other):=fun k hk h=>y _ E8V h;have g:=O H;have t:=y1j;clear hv y H;subst E;go_enter func89,ntmps89;go_wp2;clear t;go_loopw[5,10] (fun _ iv wr=>∃k:Nat,iv=.int .i64 k/\k<=rs.length/\Mst w wr) (fun _ iv _=>rs.length-(intOf iv).toNat)
 case atStart=>exact⟨0,rfl,f6J,V g⟩
 case round =>
  obtain⟨k,rfl,hk,N⟩:=hrel;clear g z aD aF aI aJ;by_cases az:k<rs.length
  ·obtain⟨b,P,q,hA⟩:=V Y k wr az N.bel;obtain⟨q1,_,_⟩:=Value.slice.inj q;clear q;subst q1;have p:=V Z k az;obtain⟨x0,x1,x2,x3,⟨va,x4,aB⟩,x5,x6,x7⟩:=hA;obtain⟨s,L,rfl,_,_⟩:=aB.shape;clear Y Z aB;generalize rs.getD k Cn.none=r at *;obtain⟨f,G⟩:∃f,wr.alloc (.cells #[.int .i64 r.kind,.int .i64 r.lo,.int .i64 r.hi,.int .i64 r.n,.slice s r.to.length L,.string r.name,.string r.other,.float .f64 r.wt] 67)=f:=⟨_,rfl⟩;have ar:Bw wr f:=by rw[<- G];exact(b0r).alloc (l0r _) _
   have C:f.heap[wr.heap.size]?=some (.cells #[.int .i64 r.kind,.int .i64 r.lo,.int .i64 r.hi,.int .i64 r.n,.slice s r.to.length L,.string r.name,.string r.other,.float .f64 r.wt] 67 (0,0)):=by
    rw[<- G];exact s6Q
   have D:=N.below ar;have aO:∀W a m,(store a (.float .f64 r.wt) m).run prog W=stored prog W a (.float .f64 r.wt) m:=fun W a m=>run_store prog W a _ m rfl;obtain⟨R,z1,z2,z3,z4,z5,z6,z7⟩:=x4E C;have ae:=O D;have ab:Hid (Mbx f wr.heap.size (w.heap.size+2) (w.heap.size+1) r.name r.other r.wt):=⟨z5,z6,z7,cell_of (j:=0) D.hx w8q⟩;clear N D ar C;by_cases x:r.kind=15
   ·obtain⟨sa,sb⟩:=p x;have af:=z3z sa sb;have KE:Hid (∀W,Calls prog 140 #[.string r.name,.string r.other] W fun e w'=>e=.returned (pk (minS r.name r.other) (maxS r.name r.other))/\Bw W w'):=fun W=>x6m _ _ W;have aq:Hid (∀W,Calls prog 139 #[.float .f64 r.wt] W fun e w'=>∃u n,e=.returned (.float .f64 u)/\w'=W.drewN n):=fun W=>y2i r.wt W;have A:Hid (∀W u,MxAt W (w.heap.size+1)->∃es i,(Instr.mapUpdate 151 (.map (some (w.heap.size+1))) (pk (minS r.name r.other) (maxS r.name r.other)) (.float .f64 u)).run prog W=.ok () (setBlock W (w.heap.size+1) (.map es i))/\∃c,GObj KN es i c):=fun W u h=>y8K h af.1 af.2 _;unfold pk at KE A;have l:Hid (Mbx f.drew wr.heap.size (w.heap.size+2) (w.heap.size+1) r.name r.other r.wt):=(V ab).below (x0k ⟨1,rfl⟩);have ai:Hid (Mst w f.drew):=(V ae).below (x0k ⟨1,rfl⟩);generalize minS r.name r.other=k1,maxS r.name r.other=k2,hkd:r.kind=kd at *;have aG:(kd==15)=true:=(by rw[beq_iff_eq];exact x);clear hkd x p sa sb af ab ae;go_wp2;clear x0 x1 x2 x3 x4 x5 x6 x7 R z1 z2 z3 z4 z5 z6 z7;refine wp_region_held_drew (S:=fun w'=>Mbx w' wr.heap.size (w.heap.size+2) (w.heap.size+1) r.name r.other r.wt) f4y (V l) (fun hHeld=>?_);refine tk9 0 (.pointer (some ⟨w.heap.size+2,0,none⟩)) ?_ (hy:=T8b);refine tk9 1 (.map (some (w.heap.size+1))) ?_ (hy:=T8b);refine tk9 2 (.pointer (some ⟨wr.heap.size,5,none⟩)) ?_ (hy:=T8b);refine tk9 3 (.string r.name) ?_ (hy:=T8b);refine tk9 4 (.pointer (some ⟨wr.heap.size,6,none⟩)) ?_ (hy:=T8b);refine tk9 5 (.string r.other) ?_ (hy:=T8b);refine tk9 7 (.pointer (some ⟨wr.heap.size,7,none⟩)) ?_ (hy:=T8b);refine tk9 8 (.float .f64 r.wt) ?_ (hy:=T8b);refine rd9 6 fun K hK=>?_;go_simp;refine c1m (V KE _) fun w2 F=>?_;have d:Hid (Mbx w2 wr.heap.size (w.heap.size+2) (w.heap.size+1) r.name r.other r.wt):=(V l).below F;have B:Hid (Mst w w2):=(V ai).below F;clear F;refine hK.out _ _ ?_ (fun hHeld=>?_)
    ·exact V d
    clear hK K
    try simp only[Act.put,sa9,sb9,sc9]
    refine rd9 9 fun K hK=>?_;go_simp;refine(V aq _).mono ?_;rintro e3 w3 ⟨u3,n3,rfl,aA⟩;have U:Bw w2 w3:=(by rw[aA];exact x0k ⟨n3,rfl⟩);clear aA;have I:Hid (Mbx w3 wr.heap.size (w.heap.size+2) (w.heap.size+1) r.name r.other r.wt):=(V d).below U;have Q:Hid (Mst w w3):=(V B).below U;obtain⟨es,i,hu,ay⟩:=V A w3 u3 (V Q).mp;have aC:=O ((V Q).more ay)
    have ag:Hid (Mbx (setBlock w3 (w.heap.size+1) (.map es i)) wr.heap.size (w.heap.size+2) (w.heap.size+1) r.name r.other r.wt):=by
     obtain⟨_,aN,aM,aH,_⟩:=(V Q).mp;exact(V I).block _ aH
    clear U ay;refine hK.out _ _ ?_ (fun hHeld=>?_)
    ·exact V I
    clear hK K
    try simp only[Act.put,sa9,sb9,sc9]
    refine rd9 10 fun K hK=>?_;go_simp;refine hK.out _ _ ?_ (fun hHeld=>?_)
    ·exact V ag
    clear hK K;refine wpAnyH_done f4y ?_ _;clear hHeld hu l d I ag ai B Q KE aq A;generalize setBlock w3 (w.heap.size+1) (.map es i)=W5 at *;go_wp2
    go_roundw
    case rel=>exact⟨k+1,g2A,f6J,V aC⟩
    case measure=>exact g7V
   ·have aG:(r.kind==15)=false:=b0f x;clear ab p x;generalize r.kind=kd at *;go_wp2
    go_roundw
    case rel=>exact⟨k+1,g2A,f6J,V ae⟩
    case measure=>exact g7V
  ·obtain rfl:k=rs.length:=f6J;have hX:=N.hx;have y0:=cell_of (j:=0) hX w8q;have F1:=N.res;have R:=cell_of (j:=0) F1 w8q;have f0:=fun j=>x0e (j:=j) F1;obtain⟨F2,F3⟩:=N.fin;have aj:=O F2;have am:=O F3;clear Y Z N hX F1 F2 F3;go_wp2;have X:=V aj;have aw:=V am;clear aj am y0 f0 R;generalize wr.setCell ⟨w.heap.size,0,none⟩ (.map (some (w.heap.size+1)))=aP at *;have R:=cell_of (j:=0) X w8q;refine bodyPost_ret (v:=.agg #[.map (some (w.heap.size+1))]) (by simp[results,Tryz.results89,go_sem,R]) rfl aw
