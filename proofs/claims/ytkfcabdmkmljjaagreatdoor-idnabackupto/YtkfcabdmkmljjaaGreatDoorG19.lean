/- Lemmas. -/
import Derived.Test.YtkfcabdmkmljjaaGreatDoorG13
import Derived.Deep.RegionHeld
import Derived.Deep.AppendLies
import Derived.Test.YtkfcabdmkmljjaaGreatDoorG20
set_option maxHeartbeats 8000000
set_option maxRecDepth 8000
namespace Go.Proofs.YtkfcabdmkmljjaaGreatDoor
open Go.Proofs.Tryz
open Go.RowKit
open Ti
section
variable{p:Prop}
theorem e6d(h:p:=by
 have y:S≠r:=fun e=>by
  subst e;simp only[World.cell?,hr]at I;cases I
 rw[World.cell?_of_block (x0q y)];exact I):p:=h
theorem s4o(h:p:=by simp[zeroValue,typeInfo,run_program,Result.andThen,Z,D]):p:=h
theorem n7Y(h:p:=by rw[x0q f6J];exact h.res):p:=h
theorem M7M(h:p:=by(intro w hSw;obtain⟨g,A,s,C,u,T⟩:=hSw;go_simp)):p:=h
theorem m4C(h:p:=by rw[x0q f6J];exact h.hx):p:=h
theorem E8d(h:p:=by have:=h.sz;exact f6J):p:=h
theorem e4I(h:p:=by rw[World.size_alloc];exact f6J):p:=h
theorem E3k(h:p:=by rw[World.size_alloc,World.size_alloc];exact f6J):p:=h
theorem m7X(h:p:=by simp only[Array.size_push];rw[if_neg f6J,if_neg f6J,if_pos trivial]):p:=h
theorem F7g(h:p:=by rw[List.length_append,Ti.x2i];exact hr):p:=h
theorem u4D(h:p:=by rw[x1F];exact F):p:=h
theorem t1C(h:p:=by(intro w hSw;obtain⟨g,s1,s,s3⟩:=hSw;go_simp)):p:=h
theorem n5Z(h:p:=by show 0<2;exact f6J):p:=h
theorem u7D(h:p:=by rw[List.length_append];exact f6J):p:=h
theorem T8Q(h:p:=by(intro w hSw;obtain⟨s0,s1,s2,s3,s4,s5,s6,s7⟩:=hSw;go_simp)):p:=h
theorem v6h(h:p:=by simp only[Array.size_push];rw[if_neg f6J,if_pos trivial]):p:=h
theorem w8q(h:p:=by show 0<1;exact f6J):p:=h
theorem w2h(h:p:=by show 1<2;exact f6J):p:=h
theorem v2e(h:p:=by rw[List.take_add_one];exact E8S):p:=h
end
namespace Cn
theorem x2P{g:Nat->Rec->Int}:∀(l:List Rec) (i:Nat) (r:Rec),rangesA g i (l++[r])=rangesA g i l++spoken r (g (i+l.length) r)
 | [],i,r=>by simp[rangesA]
 | x::l,i,r=>by
  rw[List.cons_append,rangesA,x2P l (i+1) r,rangesA,List.append_assoc,List.length_cons,(f6J:i+1+l.length=i+(l.length+1))]
theorem x5k{r:Rec}(h:right r=0)(G:r.kind≠15)(v:Int):(spoken r v).length<=1114112:=by
 obtain⟨A,s,C⟩:=x0p h G;unfold spoken;split
 ·simp
 ·rw[x6a]
  rename_i hc
  have R:=right_step h;have H:r.kind=4:=Decidable.byContradiction fun e=>hc (.inl e);unfold step at R;rw[if_pos H]at R;have:(r.hi-r.lo) / r.n<=r.hi-r.lo:=Int.ediv_le_self _ f6J;omega
theorem x3F{g:Nat->Rec->Int}:∀(l:List Rec) (i:Nat),(∀r∈l,right r=0/\r.kind≠15)->(rangesA g i l).length<=1114112*l.length
 | [],_,_=>by simp[rangesA]
 | r::l,i,h=>by
  rw[rangesA,List.length_append,List.length_cons];have Z:=x5k (h r M7K).1 (h r M7K).2 (g i r);have D:=x3F (g:=g) l (i+1) (fun x A=>h x (List.mem_cons_of_mem _ A));omega
end Cn
theorem y2a(r:Rec)(v:Int)(h:Cn.right r=0)(G:r.kind≠15):0<(Cn.spoken r v).length:=by
 unfold Cn.spoken;split
 ·simp
 ·rw[Cn.x6a]
  rename_i hc
  obtain⟨A,s,C⟩:=Cn.x0p h G;have R:=Cn.right_step h;have H:r.kind=4:=Decidable.byContradiction fun e=>hc (.inl e);unfold Cn.step at R;rw[if_pos H]at R;have:=Int.ediv_nonneg (a:=r.hi-r.lo) (b:=r.n) f6J f6J;omega
theorem z4e{p w2 w4:World}{N n:Value}{xs ys:List Tri.Rg}(l:Bw p w2)(z:Or4 w2 p.heap.size N xs)(hy:FitR ys)(S:xs.length+ys.length<=5000000000)(hr:w4.ownsRow p.heap.size 272 3 n (xs.length+ys.length) (Ti.rcells xs++Ti.rcells ys))(C:w2.grownBy w4 N.ownBlock):Or4 w4 p.heap.size n (xs++ys)/\Bw p w4 :=
 ⟨⟨fun r h=>by
  rcases List.mem_append.1 h with h | h
  ·exact z.1 r h
  ·exact hy r h,u7B,F7g⟩,l.grown C l.size (fun g Q=>(z.2.2.lt g Q).1)⟩
theorem z0x{w:World}{B:Nat}{v:Value}{ys:List Tri.Rg}(h:Or4 w B v ys)(F:0<ys.length):∃g cap,v=.slice (some ⟨g,0,none⟩) ys.length cap/\∀j u,(Ti.rcells ys)[j]?=some u->w.cell? ((⟨g,0,none⟩:Addr).add j)=some u:=by
 rcases h.2.2.2 with⟨_,R⟩ | ⟨g,cap,P,rfl,_⟩
 ·omega
 ·exact⟨g,cap,rfl,fun j u X=>h.2.2.cells (g:=g) rfl j u X⟩
theorem z6n{w w':World}{b:Nat}{W lo hi n:Int}{vt:Value}{c M:ByteArray}{wt:Nat}(h:BoxAt w b W lo hi n vt c M wt)(Y:w'.heap[b]?=w.heap[b]?):BoxAt w' b W lo hi n vt c M wt:=by
 have e:∀j,w'.cell? ⟨b,j,none⟩=w.cell? ⟨b,j,none⟩:=fun j=>World.cell?_of_block Y;exact⟨by rw[e];exact h.1,by rw[e];exact h.2,by rw[e];exact h.3,by rw[e];exact h.4,by rw[e];exact h.5,by rw[e];exact h.6,by rw[e];exact h.7,by rw[e];exact h.8⟩
theorem y2g(v:Value)(rs:List Rec)(Q:Int)(w:World)(hg:Glob w)(hv:Rcs w v rs)(hk:I64 Q)(aK:∀r∈Cn.famOf (Cn.fam Q) rs,Cn.right r=0/\r.kind≠15/\Fi (Cn.value r))(hl:(Cn.famOf (Cn.fam Q) rs).length<=4096)(I:∀m:List Tri.Rg,m.Perm (Cn.rangesA (fun _ r=>Cn.value r) 1 (Cn.famOf (Cn.fam Q) rs))->(m.Pairwise fun x y=>Tri.lo x<=Tri.lo y)->Tri.Val 0 m):Calls prog 94 #[v,.int .i64 Q] w (x6t w (Cn.rangesA (fun _ r=>Cn.value r) 1 (Cn.famOf (Cn.fam Q) rs))):=by
 obtain⟨i0,aN,aS,aT,aU⟩:=info_parts Tryz.info272;have K1:=O (x5w v rs Q w hg hv hk);unfold FamB at K1;obtain⟨ao,M,aR,_,_⟩:=hv.shape;generalize Cn.famOf (Cn.fam Q) rs=N at *;have X:=O aK;have A:=O I;clear hv hg aK I;subst aR;go_enter func94,ntmps94;go_wp2_with fail;refine(V K1).mono ?_;rintro e1 w1 ⟨v1,ps,rfl,H,hR,F⟩;have aO:ps.length=N.length:=(by rw[<- H,List.length_map]);have q:Rcs w1 v1 N:=by rw[<- H];exact hR.rsx.rcs F f6J
 have l:Hid (∀k,(Cn.rangesA (fun _ r=>Cn.value r) 1 (N.take k)).length<=4563402752):=fun k=>by
  have h1:=Cn.x3F (g:=fun _ r=>Cn.value r) (N.take k) 1 (fun r hr=>⟨(V X r (List.mem_of_mem_take hr)).1,(V X r (List.mem_of_mem_take hr)).2.1⟩);have h2:(N.take k).length<=N.length:=List.length_take_le' _ _;omega
 have D:Hid (∀k,k<N.length->∃b ab M,v1=.slice (some ⟨b,ab,none⟩) N.length M/\RecAt w1 b (ab+k*8) (N.getD k Cn.none)/\RecFit (N.getD k Cn.none)):=fun k hk=>by
  obtain⟨b,ab,M,he,_,_,hc⟩:=q.place f6J;exact⟨b,ab,M,he,hc k hk,q.fit hk⟩
 have ar:Hid (∀k,k<N.length->Cn.rangesA (fun _ r=>Cn.value r) 1 (N.take (k+1))=Cn.rangesA (fun _ r=>Cn.value r) 1 (N.take k)++Cn.spoken (N.getD k Cn.none) (Cn.value (N.getD k Cn.none))):=fun k hk=>by
  have e:N.take (k+1)=N.take k++[N.getD k Cn.none]:=v2e
  rw[e,Cn.x2P]
 have z:Hid (∀e w',x6t w1 (Cn.rangesA (fun _ r=>Cn.value r) 1 N) e w'->x6t w (Cn.rangesA (fun _ r=>Cn.value r) 1 N) e w'):=fun e w' h=>by
  obtain⟨a,m,h1,h2,h3,h4,h5⟩:=h;exact⟨a,m,h1,h2,h3,h4.lower F.size,bthen F h5⟩
 obtain⟨aZ,aW,aL,_,_⟩:=q.shape;subst aL;clear K1 H hR q aO F;go_wp2;go_loopw[5,7,12] (fun rv _ iv wr=>∃k:Nat,iv=.int .i64 k/\k<=N.length/\Or4 wr w1.heap.size rv (Cn.rangesA (fun _ r=>Cn.value r) 1 (N.take k))/\Bw w1 wr) (fun _ _ iv _=>N.length-(intOf iv).toNat)
 case atStart=>exact⟨0,rfl,f6J,Or4.nil _ _,b0r⟩
 case round =>
  obtain⟨k,rfl,hk,ae,T⟩:=hrel;by_cases E:k<N.length
  ·obtain⟨b,ab,aV,he,hA,s⟩:=V D k E;obtain⟨e1,e2,e3⟩:=Value.slice.inj he;clear e2 e3 he;subst e1;obtain⟨ag,C,P⟩:=V X (N.getD k Cn.none) N0g;have p:=O (V ar k E);have bh:=V l k;obtain⟨y0,y1,y2,y3,⟨va,y4,ai⟩,y5,y6,y7⟩:=hA;obtain⟨d,J,rfl,_,_⟩:=ai.shape;have hold:∀j u,w1.cell? ⟨b,ab+k*8+j,none⟩=some u->wr.cell? ⟨b,ab+k*8+j,none⟩=some u:=fun j u h=>I3R;have x0:wr.cell? ⟨b,ab+k*8,none⟩=_:=hold 0 _ y0;have x1:=hold 1 _ y1;have x2:=hold 2 _ y2;have x3:=hold 3 _ y3;have x4:=hold 4 _ y4;have x5:=hold 5 _ y5;have x6:=hold 6 _ y6;have x7:=hold 7 _ y7;clear hold y0 y1 y2 y3 y4 y5 y6 y7 D ar A z;generalize N.getD k Cn.none=r at *;have aM:∀W a m,(store a (.float .f64 r.wt) m).run prog W=stored prog W a (.float .f64 r.wt) m:=fun W a m=>run_store prog W a _ m rfl;obtain⟨W1,ba,Y,az⟩:=x0M wr r.kind r.lo r.hi r.n (.slice d r.to.length J) r.name r.other r.wt;have L:=O (bthen T az);have U:Hid (∀W,Bw W1 W->BoxAt W wr.heap.size r.kind r.lo r.hi r.n (.slice d r.to.length J) r.name r.other r.wt):=fun W h=>Y.keep h;have aC:Hid (∀W,Bw W1 W->Or4 W w1.heap.size u5 (Cn.rangesA (fun _ r=>Cn.value r) 1 (N.take k))/\Bw w1 W):=fun W h=>⟨(ae.below az).below h,bthen (V L) h⟩;have KV:Hid (∀W,Bw W1 W->Calls prog 146 #[recV r (.slice d r.to.length J)] W (IntB W (Cn.value r))):=fun W h=>y7q r _ W s (ai.below (bthen (V L) h));have KS:Hid (∀W,Bw W1 W->Calls prog 145 #[recV r (.slice d r.to.length J),.int .i64 (Cn.value r)] W (y7E W (Cn.spoken r (Cn.value r)))):=fun W h=>x7L r _ _ W s (ai.below (bthen (V L) h)) ag C P;have aQ:=y2a r (Cn.value r) ag C;have be:=Cn.x5k ag C (Cn.value r);unfold recV at KV KS;obtain⟨z0,z1,z2,z3,z4,z5,z6,z7⟩:=Y;have aB:Hid (u5.ownBlock≠some wr.heap.size):=fun e=>(by have:=(ae.2.2.lt _ e).2;exact f6J);have aD:Hid (wr.heap.size<W1.heap.size):=x0a z0;clear ae T az s ai ag C P X l;generalize Cn.spoken r (Cn.value r)=ys at *;generalize Cn.value r=vv at *;generalize Cn.rangesA (fun _ r=>Cn.value r) 1 (N.take k)=xs,r.kind=kd,r.lo=lo,r.hi=hi,r.n=n at *;generalize r.name=nm,r.other=ot,r.wt=wt,r.to.length=tl at *;go_wp2;clear L x0 x1 x2 x3 x4 x5 x6 x7 z0 z1 z2 z3 z4 z5 z6 z7 aM;refine wp_region_held_drew (S:=fun w'=>BoxAt w' wr.heap.size kd lo hi n (.slice d tl J) nm ot wt) f4y (V U _ (x0i ⟨1,rfl⟩)) (fun hHeld=>?_);refine tk9 0 u5 ?_;refine tk9 1 (.agg #[.int .i64 kd,.int .i64 lo,.int .i64 hi,.int .i64 n,.slice d tl J,.string nm,.string ot,.float .f64 wt]) ?_ (hy:=T8Q);refine tk9 2 (.agg #[.int .i64 kd,.int .i64 lo,.int .i64 hi,.int .i64 n,.slice d tl J,.string nm,.string ot,.float .f64 wt]) ?_ (hy:=T8Q);refine rd9 3 fun K hK=>?_;go_simp;refine c1m (V KV _ (x0i ⟨1,rfl⟩)) fun w2 aI=>?_;have i:=O (bthen (x0i ⟨1,rfl⟩) aI:Bw W1 w2);clear aI;refine hK.out _ _ ?_ (fun hHeld=>?_)
   ·exact V U _ (V i)
   clear hK K
   try simp only[Act.put,sa9,sb9,sc9]
   refine rd9 4 fun K hK=>?_;go_simp;refine(V KS _ (V i)).mono ?_;rintro e3 w3 ⟨v3,rfl,G,t⟩;have aw:=bthen (V i) t;obtain⟨g3,aF,rfl,f⟩:=z0x G aQ;have ay:=V aC _ aw;have aX:=ay.2.size;have HM:=O ay;have aA:=O G.1;have am:=O f;have aj:=O (Ti.x4Y ys);have af:=O aw;clear G t aw ay f;refine hK.out _ _ ?_ (fun hHeld=>?_)
   ·exact V U _ (V af)
   clear hK K
   try simp only[Act.put,sa9,sb9,sc9]
   refine rd9 5 fun K hK=>?_;refine step_append_lies _ (by rfl) (.tmp 16) (.tmp 20) 230 (by rfl) w1.heap.size 272 i0 (.agg #[.int .i64 0,.int .i64 0,.int .i64 0]) 3 24 underlying230 aN aS aT aU rfl f6J u5 xs.length (Ti.rcells xs) (by rfl) (V HM).1.2.2 ⟨g3,0,none⟩ ys.length aF (Ti.rcells ys) (by rfl) (by rw[Ti.x1J]) (V am) (V aj) f6J T7X f6J f6J w3.heap.size rfl ?_;intro gg Z w8 c B aH aJ;have aq:=z6n (V U _ (V af)) (B.block wr.heap.size (Nat.lt_of_lt_of_le (V aD) (V af).size) (fun e=>V aB e.symm));have R:=z4e (V HM).2 (V HM).1 (V aA) f6J c B;rw[<- V p]at R;have HR:=O R;clear R c B aH;refine hK.out _ _ ?_ (fun hHeld=>?_)
   ·exact aq
   clear hK K aq
   try simp only[Act.put,sa9,sb9,sc9]
   refine tk9 6 (.slice (some ⟨gg,0,none⟩) (xs.length+ys.length) Z) ?_;refine wpAnyH_done f4y ?_ _;clear hHeld HM aA am aj aC U KV KS p i af aB aD aJ;go_wp2
   go_roundw
   case rel=>exact⟨k+1,g2E,f6J,(V HR).1,(V HR).2⟩
   case measure=>exact g7W
  ·obtain rfl:k=N.length:=f6J;rw[List.take_of_length_le (l0r _)]at ae;have KB:=O (y8c w1 wr _ _ T ae (by have:=V l N.length;rw[List.take_of_length_le (l0r _)]at this;exact f6J) (V A));obtain⟨ro,aY,aP,_,_⟩:=ae.sr.shape;subst aP;clear ae T D ar X l A;go_wp2_with fail;refine(V KB).mono ?_;intro e w9 aG;have h9:=V z e w9 aG;obtain⟨a,m,rfl,q2,q3,q4,q5⟩:=h9;have HF:x6t w (Cn.rangesA (fun _ r=>Cn.value r) 1 N) (.returned (.pointer (some a))) w9:=⟨a,m,rfl,q2,q3,q4,q5⟩;clear KB aG z q2 q3 q4 q5;exact w0b
open Ti
def SpkB(w:World)(fs:List Rec)(e:Ending)(w':World):Prop:=∃a m vl ps,e=.returned (.agg #[.pointer (some a),vl])/\m.Perm (Cn.rangesA (fun i _=>(i:Int)) 1 fs)/\(m.Pairwise fun x y=>Tri.lo x<=Tri.lo y)/\T4 w' w.heap.size (.pointer (some a)) m 0/\Rown w' w.heap.size vl ps/\ps.map (·.1)=Cn.none::fs/\Below w.heap.size w w'
structure Spst(w w1 wr:World)(rv lv:Value)(xs:List Tri.Rg)(ps:List (Rec×Value)):Prop where
 bel:Below w.heap.size w wr
 sz:w1.heap.size<=wr.heap.size
 s1:w.heap.size+2<=w1.heap.size
 old:∀g,g<w1.heap.size->g≠w.heap.size+1->wr.heap[g]?=w1.heap[g]?
 res:w1.heap[w.heap.size]?=some (.cells #[.pointer none,.slice none 0 0] 88 (0,0))
 rng:Or4 wr w1.heap.size rv xs
 rcs:Rown wr w.heap.size lv ps
 lvb:∀g,lv.ownBlock=some g->g=w.heap.size+1\/w1.heap.size<=g
section
variable {w w1 wr w':World} {rv lv v' vt:Value} {xs ys:List Tri.Rg} {ps:List (Rec×Value)} {r:Rec} {o:Obj}
theorem Spst.below(h:Spst w w1 wr rv lv xs ps)(Y:Bw wr w'):Spst w w1 w' rv lv xs ps :=
 ⟨bthen h.bel Y,Nat.le_trans h.sz Y.size,h.s1,fun g Z D=>by rw[Y.block g E8d];exact h.old g Z D,h.res,h.rng.below Y,⟨x0w h.rcs.1 fun g C=>Y.block g (h.rcs.1.lt g C).2,fun p s=>(h.rcs.2 p s).below Y⟩,h.lvb⟩
theorem Spst.keep(h:Spst w w1 wr rv lv xs ps){B}(L:wr.heap.size<=w'.heap.size)(Y:Bw w w')(l:w1.heap.size<=B)(G:∀g,g<wr.heap.size->g≠B->w'.heap[g]?=wr.heap[g]?)(hr:rv.ownBlock≠some B)(S:lv.ownBlock≠some B)(s:∀p∈ps,p.2.ownBlock≠some B):Spst w w1 w' rv lv xs ps :=
 ⟨Y,Nat.le_trans h.sz L,h.s1,fun g Z D=>by rw[G g E8d f6J];exact h.old g Z D,h.res,⟨h.rng.1,h.rng.2.1,x0w h.rng.2.2 fun g C=>G g (h.rng.2.2.lt g C).2 (fun e=>hr (by rw[C,e]))⟩,
  ⟨x0w h.rcs.1 fun g C=>G g (h.rcs.1.lt g C).2 (fun e=>S (by rw[C,e])),fun p H=>(h.rcs.2 p H).keep fun g C=>G g ((h.rcs.2 p H).2.2.lt g C).2 (fun e=>s p H (by rw[C,e]))⟩,h.lvb⟩
theorem Spst.ranges(h:Spst w w1 wr rv lv xs ps)(hy:FitR ys)(S:xs.length+ys.length<=5000000000)(hr:w'.ownsRow w1.heap.size 272 3 v' (xs.length+ys.length) (Ti.rcells xs++Ti.rcells ys))(C:wr.grownBy w' rv.ownBlock):Spst w w1 w' v' lv (xs++ys) ps:=by
 have k:∀g,g<wr.heap.size->rv.ownBlock≠some g->w'.heap[g]?=wr.heap[g]?:=fun g Z D=>C.block g Z (fun e=>D e.symm);have G:∀g,rv.ownBlock=some g->w1.heap.size<=g:=fun g Q=>(h.rng.2.2.lt g Q).1;refine⟨h.bel.grown C h.bel.size (fun g Q=>Nat.le_trans (by have:=h.s1;exact f6J) (G g Q)),Nat.le_trans h.sz C.size,h.s1,fun g Z D=>?_,h.res,⟨fun x hx=>?_,u7D,F7g⟩,⟨x0w h.rcs.1 fun g Q=>k g (h.rcs.1.lt g Q).2 (x0N h.rcs.1 h.rng.2.2 e8N Q),fun p s=>?_⟩,h.lvb⟩
 ·rw[k g E8d (fun e=>by have:=G g e;exact f6J)];exact h.old g Z D
 ·rcases List.mem_append.1 hx with hx | hx
  ·exact h.rng.1 x hx
  ·exact hy x hx
 ·have i:=h.rcs.2 p s;exact i.keep fun g Q=>k g (i.2.2.lt g Q).2 (x0N i.2.2 h.rng.2.2 e8N Q)
theorem Spst.more(h:Spst w w1 wr rv lv xs ps)(U:Ok .i32 21 wr w.heap.size vt r.to){gg cap}(hr:w'.ownsRow w.heap.size 60 8 (.slice (some ⟨gg,0,none⟩) (ps.length+1) cap) (ps.length+1) (rcells ps++x0A (r,vt)))(C:(wr.alloc o).grownBy w' lv.ownBlock)(X:lv.ownBlock=some gg\/gg=wr.heap.size+1):Spst w w1 w' rv (.slice (some ⟨gg,0,none⟩) (ps.length+1) cap) xs (ps++[(r,vt)]):=by
 have L:=h.bel.size;have f:=h.sz;have N:=h.s1
 have k:∀g,g<wr.heap.size->lv.ownBlock≠some g->w'.heap[g]?=wr.heap[g]?:=fun g Z D=>by
  rw[C.block g e4I (fun e=>D e.symm)];exact((Below.refl wr.heap.size wr).alloc (l0r _) o).block g Z
 refine⟨(h.bel.alloc L o).grown C e4I (fun g Q=>(h.rcs.1.lt g Q).1),Nat.le_trans f (by have:=C.size;rw[World.size_alloc]at this;exact f6J),N,fun g Z D=>?_,h.res,⟨h.rng.1,h.rng.2.1,x0w h.rng.2.2 fun g Q=>k g (h.rng.2.2.lt g Q).2 (x0N h.rng.2.2 h.rcs.1 e8N Q)⟩,⟨?_,fun p hp=>?_⟩,fun g Q=>?_⟩
 ·rw[k g f6J (fun e=>by rcases h.lvb g e with h3 | h3<;>omega)];exact h.old g Z D
 ·rw[x3G]at hr;simpa using hr
 ·rcases List.mem_append.1 hp with hp | hp
  ·have i:=h.rcs.2 p hp;exact i.keep fun g Q=>k g (i.2.2.lt g Q).2 (x0N i.2.2 h.rcs.1 e8N Q)
  ·simp only[List.mem_singleton]at hp;subst hp;exact U.keep fun g Q=>k g (U.2.2.lt g Q).2 (x0N U.2.2 h.rcs.1 e8N Q)
 ·simp only[Value.ownBlock,Option.some.injEq]at Q;subst Q;rcases X with h3 | h3
  ·exact h.lvb _ h3
  ·exact e5w
end
theorem z8r w:∃W1 x,w.alloc (.cells #[.pointer none,.slice none 0 0] 88)=W1/\W1.alloc (.cells #[.int .i64 0,.int .i64 0,.int .i64 0,.int .i64 0,.slice none 0 0,.string ⟨#[]⟩,.string ⟨#[]⟩,.float .f64 0] 60)=x/\Bw w x/\W1.heap.size=w.heap.size+1/\x.heap.size=w.heap.size+2/\∀w1,Bw x w1->Spst w w1 w1 (.slice none 0 0) (.slice (some ⟨w.heap.size+1,0,none⟩) 1 1) [] [(Cn.none,.slice none 0 0)]:=by
 refine⟨_,_,rfl,rfl,((b0r).alloc (l0r _) _).alloc M7N _,World.size_alloc _ _,by rw[World.size_alloc,World.size_alloc],fun w1 Y=>?_⟩;have L:=Y.size;rw[World.size_alloc,World.size_alloc]at L;have f:Bw w ((w.alloc (.cells #[.pointer none,.slice none 0 0] 88)).alloc (.cells #[.int .i64 0,.int .i64 0,.int .i64 0,.int .i64 0,.slice none 0 0,.string ⟨#[]⟩,.string ⟨#[]⟩,.float .f64 0] 60)):=((b0r).alloc (l0r _) _).alloc M7N _;refine⟨bthen f Y,l0r _,f6J,fun g _ _=>rfl,?_,Or4.nil _ _,⟨⟨rfl,.inr ⟨w.heap.size+1,1,#[.int .i64 0,.int .i64 0,.int .i64 0,.int .i64 0,.slice none 0 0,.string ⟨#[]⟩,.string ⟨#[]⟩,.float .f64 0],rfl,f6J,?_,l0r _,T7W,rfl,rfl⟩⟩,fun p s=>?_⟩,fun g C=>?_⟩
 ·rw[Y.block _ E3k];exact n9Y
 ·rw[Y.block _ E3k];show((w.heap.push _).push _)[w.heap.size+1]?=_;rw[Array.getElem?_push,if_pos M7N]
 ·simp only[List.mem_singleton]at s;subst s;exact Ok.nil _ _ _ _
 ·simp only[Value.ownBlock,Option.some.injEq]at C;exact .inl C.symm
theorem q0F(k:Nat) z(h:[Value.int .i64 0,.int .i64 0,.int .i64 0,.int .i64 0,.slice none 0 0,.string ⟨#[]⟩,.string ⟨#[]⟩,.float .f64 0][k]?=some (.int .i32 z)):False:=by grind
theorem q1i{w1 W B}(l:w1.heap[B]?=some (.cells #[.int .i64 0,.int .i64 0,.int .i64 0,.int .i64 0,.slice none 0 0,.string ⟨#[]⟩,.string ⟨#[]⟩,.float .f64 0] 60 (0,0)))(G:∀g,g<w1.heap.size->g≠B->W.heap[g]?=w1.heap[g]?){va zs}(h:Sk .i32 w1 va zs):Sk .i32 W va zs:=by
 obtain⟨Z,D,J⟩:=h;refine⟨Z,D,?_⟩;rcases J with J | ⟨b,R,M,e,X,K,S⟩
 ·exact .inl J
 ·refine .inr ⟨b,R,M,e,X,K,fun i hi=>?_⟩;have I:=S i hi
  have y:b≠B:=fun e=>by
   subst e;rw[x9O .i32 zs i w3y]at I;simp only[World.cell?,l]at I;exact q0F _ _ v0B
  rw[World.cell?_of_block (G b (x0a I) y)];exact I
theorem z4f{w:World}{B e F n:Nat}{v us}(h:w.ownsRow B e F v n us){g}(C:v.ownBlock=some g):∃P,w.heap[g]?=some (.cells P e (0,0)):=by
 rcases h.2 with⟨rfl,_⟩ | ⟨S,M,P,rfl,_,H,_⟩
 ·cases C
 ·simp only[Value.ownBlock,Option.some.injEq]at C;subst C;exact⟨P,H⟩
theorem z1A{w:World}{B e Y F n g:Nat}{v us cur}(h:w.ownsRow B e F v n us)(H:w.heap[g]?=some (.cells cur Y (0,0)))(y:e≠Y):v.ownBlock≠some g:=fun C=>by
 obtain⟨c,I⟩:=z4f h C;rw[H]at I;simp only[Option.some.injEq,Obj.cells.injEq]at I;exact y I.2.1.symm
theorem x4H{w:World}{g c0 c1 c2 c3 c4 c5 c6 c7}(h:w.heap[g]?=some (.cells #[c0,c1,c2,c3,c4,c5,c6,c7] 60 (0,0))):w.cell? ⟨g,0,none⟩=some c0/\w.cell? ⟨g,1,none⟩=some c1/\w.cell? ⟨g,2,none⟩=some c2/\w.cell? ⟨g,3,none⟩=some c3/\w.cell? ⟨g,4,none⟩=some c4/\w.cell? ⟨g,5,none⟩=some c5/\w.cell? ⟨g,6,none⟩=some c6/\w.cell? ⟨g,7,none⟩=some c7 :=
 ⟨cell_of (j:=0) h (by show 0<8;exact f6J),cell_of (j:=1) h (by show 1<8;exact f6J),cell_of (j:=2) h (by show 2<8;exact f6J),cell_of (j:=3) h (by show 3<8;exact f6J),cell_of (j:=4) h (by show 4<8;exact f6J),cell_of (j:=5) h (by show 5<8;exact f6J),cell_of (j:=6) h (by show 6<8;exact f6J),cell_of (j:=7) h (by show 7<8;exact f6J)⟩
def y7w(w:World)(v:Value)(xs:List Tri.Rg)(e:Ending)(w':World):Prop:=∃a m,e=.returned (.pointer (some a))/\m.Perm xs/\(m.Pairwise fun x y=>Tri.lo x<=Tri.lo y)/\T4 w' w.heap.size (.pointer (some a)) m 0/\w.grownBy w' v.ownBlock
theorem y6a{a b c:World}{row}(h:a.grownBy b row)(k:Bw b c):a.grownBy c row:=by
 refine⟨k.os.trans h.os,k.tape.trans h.tape,k.output.trans h.output,Nat.le_trans h.size k.size,fun g Z D=>?_⟩;rw[k.block g (Nat.lt_of_lt_of_le Z h.size)];exact h.block g Z D
theorem y5w B w v(xs:List Tri.Rg)(h:Or4 w B v xs)(S:xs.length<=5000000000)(N:∀m:List Tri.Rg,m.Perm xs->(m.Pairwise fun x y=>Tri.lo x<=Tri.lo y)->Tri.Val 0 m):Calls prog 147 #[v] w (y7w w v xs):=by
 have q:=O (y1Y w B v xs h S);have L:=O N;obtain⟨J,M,rfl,_,_⟩:=h.sr.shape;go_enter func147,ntmps147;go_wp2_with fail;refine(V q).mono ?_;rintro t w1 ⟨rfl,ys,s,D,Z,C⟩;have I:=V L ys s D;have g:=O (z5h _ ys 0 w1 Z ⟨f6J,f6J⟩);have n:(Tri.check 0 ys).2=0:=Tri.x3W.2 ⟨I,f6J,f6J⟩;have c:=O n;have A:=O s;have K:=O D;have z:=O C;go_wp2_with fail;refine(V g).mono ?_;rintro E T ⟨H,⟨_,a,rfl,b⟩ | ⟨W,_⟩⟩
 ·have U:y7w w (.slice J xs.length M) xs (.returned (.pointer (some a))) T:=⟨a,ys,rfl,V A,V K,b.lower (V z).size,y6a (V z) H⟩;exact m2G
 ·exact absurd (V c) W
theorem Spst.fin{w w1 wr w9 rv lv}{xs:List Tri.Rg}{ps:List (Rec×Value)}(h:Spst w w1 wr rv lv xs ps)(C:wr.grownBy w9 rv.ownBlock){a}{m:List Tri.Rg}(b:T4 w9 wr.heap.size (.pointer (some a)) m 0) :
  w9.heap[w.heap.size]?=some (.cells #[.pointer none,.slice none 0 0] 88 (0,0)) /\
  ((w9.setCell ⟨w.heap.size,0,none⟩ (.pointer (some a))).setCell ⟨w.heap.size,1,none⟩ lv).heap[w.heap.size]?=some (.cells #[.pointer (some a),lv] 88 (0,0)) /\
  T4 ((w9.setCell ⟨w.heap.size,0,none⟩ (.pointer (some a))).setCell ⟨w.heap.size,1,none⟩ lv) w.heap.size (.pointer (some a)) m 0/\Rown ((w9.setCell ⟨w.heap.size,0,none⟩ (.pointer (some a))).setCell ⟨w.heap.size,1,none⟩ lv) w.heap.size lv ps /\
  Bw w ((w9.setCell ⟨w.heap.size,0,none⟩ (.pointer (some a))).setCell ⟨w.heap.size,1,none⟩ lv):=by
 have A:=h.s1;have F:=h.sz;have k:∀g,g<wr.heap.size->rv.ownBlock≠some g->w9.heap[g]?=wr.heap[g]?:=fun g Z D=>C.block g Z (fun e=>D e.symm);have G:∀g,rv.ownBlock=some g->w1.heap.size<=g:=fun g Q=>(h.rng.2.2.lt g Q).1
 have S:w9.heap[w.heap.size]?=some (.cells #[.pointer none,.slice none 0 0] 88 (0,0)):=by
  rw[k _ f6J (fun e=>by have:=G _ e;exact f6J),h.old _ f6J f6J];exact h.res
 have E:Rown w9 w.heap.size lv ps:=⟨x0w h.rcs.1 fun g Q=>k g (h.rcs.1.lt g Q).2 (x0N h.rcs.1 h.rng.2.2 e8N Q),fun p s=>(h.rcs.2 p s).keep fun g Q=>k g ((h.rcs.2 p s).2.2.lt g Q).2 (x0N (h.rcs.2 p s).2.2 h.rng.2.2 e8N Q)⟩;have M:∀g,g≠w.heap.size->((w9.setCell ⟨w.heap.size,0,none⟩ (.pointer (some a))).setCell ⟨w.heap.size,1,none⟩ lv).heap[g]?=w9.heap[g]?:=fun g y=>(by rw[x0e _ y,x0e _ y]);have B:Bw w w9:=h.bel.grown C h.bel.size (fun g Q=>by have:=G g Q;exact f6J);refine⟨S,?_,?_,⟨x0w E.1 fun g Q=>M g (fun e=>z1A E.1 S e8N (by rw[Q,e])),fun p s=>(E.2 p s).keep fun g Q=>M g (fun e=>z1A (E.2 p s).2.2 S e8N (by rw[Q,e]))⟩,x0b (x0b B (l0r _) _) (l0r _) _⟩
 ·rw[x0c (x0c S _)];rfl
 ·exact T4.lower (b.keep (by rw[x0V,x0V];exact l0r _) fun g Z _=>M g f6J) f6J
open Go.RowKit Go.MapKept Go.WideMaps
open Go.ChangeMaps (setBlock)
theorem x3K{w b o}(h:b<w.heap.size):(setBlock w b o).heap[b]?=some o:=by
 show(w.heap.setIfInBounds b o)[b]?=_;simp[h]
theorem x0q{w b g o}(h:g≠b):(setBlock w b o).heap[g]?=w.heap[g]?:=by
 show(w.heap.setIfInBounds b o)[g]?=_;simp[Ne.symm h]
theorem x1F w b o:(setBlock w b o).heap.size=w.heap.size:=by
 show(w.heap.setIfInBounds b o).size=_;simp
theorem x3z{B a w}(h:Below B a w){b}(Y:B<=b) o:Below B a (setBlock w b o):=by
 refine⟨h.os,h.tape,h.output,?_,fun g C=>?_⟩
 ·rw[x1F];exact h.size
 ·rw[x0q f6J];exact h.block g C
structure Cst(w wr:World)(lp ls:List Rec):Prop where
 bel:Below w.heap.size w wr
 sz:w.heap.size+4<=wr.heap.size
 res:wr.heap[w.heap.size]?=some (.cells #[.map none,.map none] 98 (0,0))
 hx:wr.heap[w.heap.size+3]?=some (.cells #[.map (some (w.heap.size+1)),.map (some (w.heap.size+2))] 98 (0,0))
 mp:GAt KP wr (w.heap.size+1) (x3m lp)
 ms:GAt KR wr (w.heap.size+2) (secC ls)
section
variable {w wr w':World} {lp ls lp' ls':List Rec}
theorem Cst.below(h:Cst w wr lp ls)(Y:Bw wr w'):Cst w w' lp ls:=by
 have F:=h.sz;obtain⟨t,X,u,d⟩:=h.mp;obtain⟨E,K,A,s⟩:=h.ms;exact⟨bthen h.bel Y,Nat.le_trans F Y.size,by rw[Y.block _ f6J];exact h.res,by rw[Y.block _ f6J];exact h.hx,⟨t,X,by rw[Y.block _ f6J];exact u,d⟩,⟨E,K,by rw[Y.block _ f6J];exact A,s⟩⟩
theorem Cst.pair(h:Cst w wr lp ls){U:Array MapEntry}{cl}(C:GObj KP U cl (x3m lp')):Cst w (setBlock wr (w.heap.size+1) (.map U cl)) lp' ls:=by
 have F:=h.sz;obtain⟨E,K,A,s⟩:=h.ms;exact⟨x3z h.bel f6J _,u4D,n7Y,m4C,⟨U,cl,x3K f6J,C⟩,⟨E,K,by rw[x0q f6J];exact A,s⟩⟩
theorem Cst.second(h:Cst w wr lp ls){U:Array MapEntry}{cl}(C:GObj KR U cl (secC ls')):Cst w (setBlock wr (w.heap.size+2) (.map U cl)) lp ls':=by
 have F:=h.sz;obtain⟨E,K,A,s⟩:=h.mp;exact⟨x3z h.bel f6J _,u4D,n7Y,m4C,⟨E,K,by rw[x0q f6J];exact A,s⟩,⟨U,cl,x3K f6J,C⟩⟩
def CmpB(w:World)(rs:List Rec)(e:Ending)(w':World):Prop:=∃r1 r2,e=.returned (.agg #[.map (some r1),.map (some r2)])/\w.heap.size<=r1/\w.heap.size<=r2/\GAt KP w' r1 (x3m rs)/\GAt KR w' r2 (secC rs)/\Below w.heap.size w w'
theorem Cst.fin(h:Cst w wr lp lp):((wr.setCell ⟨w.heap.size,0,none⟩ (.map (some (w.heap.size+1)))).setCell ⟨w.heap.size,1,none⟩ (.map (some (w.heap.size+2)))).heap[w.heap.size]?=some (.cells #[.map (some (w.heap.size+1)),.map (some (w.heap.size+2))] 98 (0,0)) /\
  CmpB w lp (.returned (.agg #[.map (some (w.heap.size+1)),.map (some (w.heap.size+2))])) ((wr.setCell ⟨w.heap.size,0,none⟩ (.map (some (w.heap.size+1)))).setCell ⟨w.heap.size,1,none⟩ (.map (some (w.heap.size+2)))):=by
 have F:=h.sz;have M:∀g,g≠w.heap.size->((wr.setCell ⟨w.heap.size,0,none⟩ (.map (some (w.heap.size+1)))).setCell ⟨w.heap.size,1,none⟩ (.map (some (w.heap.size+2)))).heap[g]?=wr.heap[g]?:=fun g y=>(by rw[x0e _ y,x0e _ y]);obtain⟨t,X,u,d⟩:=h.mp;obtain⟨E,K,A,s⟩:=h.ms;refine⟨by rw[x0c (x0c h.res _)];rfl,_,_,rfl,f6J,f6J,⟨t,X,by rw[M _ f6J];exact u,d⟩,⟨E,K,by rw[M _ f6J];exact A,s⟩,x0b (x0b h.bel (l0r _) _) (l0r _) _⟩
end
theorem z6z w:∃W1 x L n,w.alloc (.cells #[.map none,.map none] 98)=W1/\W1.alloc (.map #[] 0)=x/\x.alloc (.map #[] 0)=L/\L.alloc (.cells #[.map (some (w.heap.size+1)),.map (some (w.heap.size+2))] 98)=n/\W1.heap.size=w.heap.size+1/\x.heap.size=w.heap.size+2/\L.heap.size=w.heap.size+3/\Cst w n [] []:=by
 refine⟨_,_,_,_,rfl,rfl,rfl,rfl,M7N,M7N,M7N,?_⟩;have Y:Bw w ((((w.alloc (.cells #[.map none,.map none] 98)).alloc (.map #[] 0)).alloc (.map #[] 0)).alloc (.cells #[.map (some (w.heap.size+1)),.map (some (w.heap.size+2))] 98)):=((((b0r).alloc (l0r _) _).alloc M7N _).alloc P8P _).alloc P8P _;refine⟨Y,M7N,?_,?_,⟨#[],0,?_,y9k _ _ z0C⟩,⟨#[],0,?_,y9k _ _ z4A⟩⟩
 ·show((((w.heap.push _).push _).push _).push _)[w.heap.size]?=_;rw[Array.getElem?_push,Array.getElem?_push,Array.getElem?_push,Array.getElem?_push];simp only[Array.size_push];rw[if_neg f6J,if_neg f6J,if_neg f6J,if_pos trivial]
 ·show((((w.heap.push _).push _).push _).push _)[w.heap.size+3]?=_;rw[Array.getElem?_push,Array.getElem?_push,Array.getElem?_push,Array.getElem?_push];simp only[Array.size_push];rw[if_pos trivial]
 ·show((((w.heap.push _).push _).push _).push _)[w.heap.size+1]?=_;rw[Array.getElem?_push,Array.getElem?_push,Array.getElem?_push,Array.getElem?_push];exact m7X
 ·show((((w.heap.push _).push _).push _).push _)[w.heap.size+2]?=_;rw[Array.getElem?_push,Array.getElem?_push,Array.getElem?_push,Array.getElem?_push];exact v6h
open Go.RowKit Go.MapKept Go.WideMaps
open Go.ChangeMaps (setBlock)
structure Cbx(W:World)(g x m1 m2 b off:Nat)(lo p q:Int)(vt:Value):Prop where
 lo:W.cell? ⟨g,1,none⟩=some (.int .i64 lo)
 lst:W.cell? ⟨g,4,none⟩=some vt
 x0:W.cell? ⟨x,0,none⟩=some (.map (some m1))
 x1:W.cell? ⟨x,1,none⟩=some (.map (some m2))
 a:W.cell? ⟨b,off,none⟩=some (.int .i32 p)
 b:W.cell? ⟨b,off+1,none⟩=some (.int .i32 q)
theorem Cbx.block{W:World}{g x u d b off r:Nat}{lo p q:Int}{vt:Value}(h:Cbx W g x u d b off lo p q vt){U:Array MapEntry}{cl:Nat}(o:Obj)(hr:W.heap[r]?=some (.map U cl)):Cbx (setBlock W r o) g x u d b off lo p q vt:=by
 have k:∀S j v,W.cell? ⟨S,j,none⟩=some v->(setBlock W r o).cell? ⟨S,j,none⟩=some v:=fun S j v I=>e6d
 exact⟨k _ _ _ h.lo,k _ _ _ h.lst,k _ _ _ h.x0,k _ _ _ h.x1,k _ _ _ h.a,k _ _ _ h.b⟩
theorem Cbx.drew{W:World}{g x u d b off:Nat}{lo p q:Int}{vt:Value}(h:Cbx W g x u d b off lo p q vt):Cbx W.drew g x u d b off lo p q vt:=⟨h.lo,h.lst,h.x0,h.x1,h.a,h.b⟩
theorem y2d(t:TypeId)(W:World):(Instr.makeMap t none).run prog W=.ok (.map (some W.heap.size)) (W.alloc (.map #[] 0)):=by
 simp[Instr.makeMap,Result.andThen]
theorem z4Z(w:World):(zeroValue 21).run prog w=.ok (.int .i32 0) w:=by
 obtain⟨i,Z,D,_,_⟩:=info_parts Tryz.info21;exact s4o
theorem Tryz.info93:(prog.info? 3).map (fun i=>(i.zero,i.size,i.bytes))=some (some (.int .i64 0),1,8):=f4x
theorem z5a(w:World):(zeroValue 3).run prog w=.ok (.int .i64 0) w:=by
 obtain⟨i,Z,D,_,_⟩:=info_parts Tryz.info93;exact s4o
theorem z4z(l:List Rec)(b:Int):(secC l (.int .i32 b)).getD (.int .i64 0)=.int .i64 (Cn.secOf l b:Nat):=by
 show(if Cn.secOf l b=0 then none else some (Value.int .i64 (Cn.secOf l b:Nat))).getD _=_;by_cases h:Cn.secOf l b=0
 ·rw[if_pos h,h];rfl
 ·rw[if_neg h];rfl
theorem x3Z(v:Value)(rs:List Rec)(w:World)(hv:Rcs w v rs)(l:∀r∈rs,r.kind=7->r.to.length=2/\0<=r.lo/\r.lo<=1114111)(hl:rs.length<=4096):Calls prog 96 #[v] w (CmpB w rs):=by
 obtain⟨W1,W2,W3,W4,aX,aY,aZ,ba,bj,bm,bD,P⟩:=z6z w;have bt:=hv.1;obtain⟨ao,aU,aB,_,_⟩:=hv.shape
 have D:Hid (∀k W,k<rs.length->Bw w W->∃b R,v=.slice (some ⟨b,R,none⟩) rs.length aU/\RecAt W b (R+k*8) (rs.getD k Cn.none)/\RecFit (rs.getD k Cn.none)):=fun k W hk hW=>by
  obtain⟨b,R,bp,he,_,_,hc⟩:=(hv.below hW).place f6J;rw[aB]at he;obtain⟨e1,e2,e3⟩:=Value.slice.inj he;refine⟨b,R,?_,hc k hk,(hv.below hW).fit hk⟩;rw[aB,e1]
 have aw:Hid (∀k,k<rs.length->rs.take (k+1)=rs.take k++[rs.getD k Cn.none]/\rs.getD k Cn.none∈rs):=fun k hk=>by
  refine⟨?_,?_⟩
  ·exact v2e
  ·exact E8S
 have X:=O l;have aF:=O P;clear hv l P;subst aB;have bh:=y2d;go_enter func96,ntmps96;go_wp2;clear bh;go_loopw[5,11] (fun _ iv wr=>∃k:Nat,iv=.int .i64 k/\k<=rs.length/\Cst w wr (rs.take k) (rs.take k)) (fun _ iv _=>rs.length-(intOf iv).toNat)
 case atStart=>exact⟨0,rfl,f6J,V aF⟩
 case round =>
  obtain⟨k,rfl,hk,H⟩:=hrel;clear aF aX aY aZ ba bj bm;by_cases aN:k<rs.length
  ·obtain⟨b,R,he,hA,ai⟩:=V D k wr aN H.bel;obtain⟨q1,_,_⟩:=Value.slice.inj he;clear he;subst q1;obtain⟨aI,am⟩:=V aw k aN;have az:=V X _ am;obtain⟨x0,x1,x2,x3,⟨va,x4,aC⟩,x5,x6,x7⟩:=hA;obtain⟨aQ,J,rfl,_,_⟩:=aC.shape;clear D aw X am;generalize rs.getD k Cn.none=r at *;obtain⟨Q,aK⟩:∃Q,wr.alloc (.cells #[.int .i64 r.kind,.int .i64 r.lo,.int .i64 r.hi,.int .i64 r.n,.slice aQ r.to.length J,.string r.name,.string r.other,.float .f64 r.wt] 60)=Q:=⟨_,rfl⟩;have I:Bw wr Q:=by rw[<- aK];exact(b0r).alloc (l0r _) _
   have B:Q.heap[wr.heap.size]?=some (.cells #[.int .i64 r.kind,.int .i64 r.lo,.int .i64 r.hi,.int .i64 r.n,.slice aQ r.to.length J,.string r.name,.string r.other,.float .f64 r.wt] 60 (0,0)):=by
    rw[<- aK];exact s6Q
   have aJ:=H.below I;have bC:∀W a m,(store a (.float .f64 r.wt) m).run prog W=stored prog W a (.float .f64 r.wt) m:=fun W a m=>run_store prog W a _ m rfl;obtain⟨z0,z1,z2,z3,z4,z5,z6,z7⟩:=x4H B;have Z:=O aJ;have ae:=O (aC.below I);have bB:=ai.lo;clear H aJ aC I B ai;by_cases y:r.kind=7
   ·obtain⟨t2,l0,l1⟩:=az y;have aO:Rune (r.to.getD 0 0):=x0W (V ae) f6J;have aP:Rune (r.to.getD 1 0):=x0W (V ae) f6J
    have L:Hid (x3m (rs.take k++[r]) (pk2 (r.to.getD 0 0) (r.to.getD 1 0))=some (.int .i32 r.lo)):=by
     show x3m (rs.take k++[r]) (pk2 (r.to.getD 0 0) (r.to.getD 1 0))=_;have hp:Cn.isP (r.to.getD 0 0) (r.to.getD 1 0) r=true:=d0t ⟨y,rfl,rfl⟩;rw[y4R,Cn.x7o,if_pos hp];rfl
    have af:Hid (∀x,x≠pk2 (r.to.getD 0 0) (r.to.getD 1 0)->x3m (rs.take k++[r]) x=x3m (rs.take k) x):=fun x hx=>x7n fun a b e q=>hx (by rw[e,<- q.2.1,<- q.2.2])
    have N:Hid (secC (rs.take k++[r]) (.int .i32 (r.to.getD 1 0))=some (.int .i64 ((Cn.secOf (rs.take k) (r.to.getD 1 0):Nat)+1))):=by
     show(if Cn.secOf (rs.take k++[r]) (r.to.getD 1 0)=0 then none else some (Value.int .i64 (Cn.secOf (rs.take k++[r]) (r.to.getD 1 0):Nat)))=_
     have hs:Cn.secOf (rs.take k++[r]) (r.to.getD 1 0)=Cn.secOf (rs.take k) (r.to.getD 1 0)+1:=by
      rw[Cn.x8U,if_pos (And.intro y rfl)]
     rw[hs,if_neg f6J];rfl
    have ag:Hid (∀x,x≠Value.int .i32 (r.to.getD 1 0)->secC (rs.take k++[r]) x=secC (rs.take k) x):=fun x hx=>x8T fun b e q=>hx (by rw[e,<- q.2]);have aq:=Cn.z4B (rs.take k) (r.to.getD 1 0);have bu:Cn.secOf (rs.take k) (r.to.getD 1 0)<=4096:=(by rw[List.length_take]at aq;exact f6J);obtain⟨c,G,pc,d,_,_,aA⟩:=(V ae).place f6J;have ya:=aA 0 f6J;have yb:=aA 1 f6J;rw[Nat.add_zero]at ya;obtain⟨e1,_,e3⟩:=Value.slice.inj d;subst e1;subst e3;have hX:=(V Z).hx;have ar:Hid (Cbx Q wr.heap.size (w.heap.size+3) (w.heap.size+1) (w.heap.size+2) c G r.lo (r.to.getD 0 0) (r.to.getD 1 0) (.slice (some ⟨c,G,none⟩) r.to.length J)):=⟨z1,z4,cell_of (j:=0) hX n5Z,cell_of (j:=1) hX w2h,ya,yb⟩;obtain⟨es,cl,hu,aM⟩:=x9w (w:=Q.drew) (M:=95) klP underlying95 (r:=w.heap.size+1) (V Z).mp ⟨_,_,rfl,aO,aP⟩ (V L) (V af);have p:Hid (Cst w (setBlock Q.drew (w.heap.size+1) (.map es cl)) (rs.take k++[r]) (rs.take k)):=((V Z).below (x0i ⟨1,rfl⟩)).pair aM
    have F:Hid (Cbx (setBlock Q.drew (w.heap.size+1) (.map es cl)) wr.heap.size (w.heap.size+3) (w.heap.size+1) (w.heap.size+2) c G r.lo (r.to.getD 0 0) (r.to.getD 1 0) (.slice (some ⟨c,G,none⟩) r.to.length J)):=by
     obtain⟨aW,aV,i,_⟩:=(V Z).mp;exact(V ar).drew.block _ i
    have bw:IntKind.i32.wrap r.lo=r.lo:=(by rw[IntKind.wrap_i32];exact f6J);have bE:((Cn.secOf (rs.take k) (r.to.getD 1 0):Nat):Int)+1<=5000:=f6J;unfold pk2 at hu;clear aM L af aA d ya yb hX ae az aq aO aP;rw[t2]at *;generalize r.to.getD 0 0=pa,r.to.getD 1 0=E at *;generalize hsn:Cn.secOf (rs.take k) E=sn at *;have aT:=O hsn;clear hsn;generalize hkd:r.kind=kd at *;have be:(kd==7)=true:=(by rw[beq_iff_eq];exact y);clear hkd y;go_wp2;clear x0 x1 x2 x3 x4 x5 x6 x7 z0 z1 z2 z3 z4 z5 z6 z7;refine wp_region_held_drew (S:=fun w'=>Cbx w' wr.heap.size (w.heap.size+3) (w.heap.size+1) (w.heap.size+2) c G r.lo pa E (.slice (some ⟨c,G,none⟩) 2 J)) f4y (V ar).drew (fun hHeld=>?_);refine tk9 0 (.pointer (some ⟨w.heap.size+3,0,none⟩)) ?_ (hy:=M7M);refine tk9 1 (.map (some (w.heap.size+1))) ?_ (hy:=M7M);refine tk9 2 (.pointer (some ⟨wr.heap.size,4,none⟩)) ?_ (hy:=M7M);refine tk9 3 (.slice (some ⟨c,G,none⟩) 2 J) ?_ (hy:=M7M);refine tk9 4 (.pointer (some ⟨c,G,none⟩)) ?_ (hy:=M7M);refine tk9 5 (.int .i32 pa) ?_ (hy:=M7M);refine tk9 6 (.pointer (some ⟨wr.heap.size,4,none⟩)) ?_ (hy:=M7M);refine tk9 7 (.slice (some ⟨c,G,none⟩) 2 J) ?_ (hy:=M7M);refine tk9 8 (.pointer (some ⟨c,G+1,none⟩)) ?_ (hy:=M7M);refine tk9 9 (.int .i32 E) ?_ (hy:=M7M);refine tk9 10 (.agg #[.int .i32 pa,.int .i32 E]) ?_ (hy:=M7M);refine tk9 11 (.pointer (some ⟨wr.heap.size,1,none⟩)) ?_ (hy:=M7M);refine tk9 12 (.int .i64 r.lo) ?_ (hy:=M7M);refine tk9 13 (.int .i32 r.lo) ?_ (hy:=M7M);refine rd9 14 fun K hK=>?_;go_simp;refine hK.out _ _ ?_ (fun hHeld=>?_)
    ·exact V F
    clear hK K;refine wpAnyH_done f4y ?_ _;clear hHeld hu ar Z;generalize setBlock Q.drew (w.heap.size+1) (.map es cl)=U at *;have aH:=(z5n (w:=U.drew) (M:=96) (z:=.int .i64 0) klR underlying96 z5a (r:=w.heap.size+2) (V p).ms ⟨E,rfl⟩).2;rw[z4z,V aT]at aH;obtain⟨Y,ay,bn,aj⟩:=x9w (w:=U.drew) (M:=96) klR underlying96 (r:=w.heap.size+2) (V p).ms ⟨E,rfl⟩ (V N) (V ag);have aS:Hid (Cst w (setBlock U.drew (w.heap.size+2) (.map Y ay)) (rs.take k++[r]) (rs.take k++[r])):=((V p).below (x0i ⟨1,rfl⟩)).second aj
    have aD:Hid (Cbx (setBlock U.drew (w.heap.size+2) (.map Y ay)) wr.heap.size (w.heap.size+3) (w.heap.size+1) (w.heap.size+2) c G r.lo pa E (.slice (some ⟨c,G,none⟩) 2 J)):=by
     obtain⟨aW,aV,i,_⟩:=(V p).ms;exact(V F).drew.block _ i
    have ab:Hid (Cbx U.drew wr.heap.size (w.heap.size+3) (w.heap.size+1) (w.heap.size+2) c G r.lo pa E (.slice (some ⟨c,G,none⟩) 2 J)):=(V F).drew;have bA:IntKind.i64.wrap ((sn:Int)+1)=(sn:Int)+1:=(by rw[IntKind.wrap_i64];exact f6J);clear aj N ag p F;go_wp2;refine wp_region_held_drew (S:=fun w'=>Cbx w' wr.heap.size (w.heap.size+3) (w.heap.size+1) (w.heap.size+2) c G r.lo pa E (.slice (some ⟨c,G,none⟩) 2 J)) f4y (V ab) (fun hHeld=>?_);refine tk9 0 (.pointer (some ⟨w.heap.size+3,1,none⟩)) ?_ (hy:=M7M);refine tk9 1 (.map (some (w.heap.size+2))) ?_ (hy:=M7M);refine tk9 2 (.pointer (some ⟨wr.heap.size,4,none⟩)) ?_ (hy:=M7M);refine tk9 3 (.slice (some ⟨c,G,none⟩) 2 J) ?_ (hy:=M7M);refine tk9 4 (.pointer (some ⟨c,G+1,none⟩)) ?_ (hy:=M7M);refine tk9 5 (.int .i32 E) ?_ (hy:=M7M);refine rd9 6 fun K hK=>?_;go_simp;refine hK.out _ _ ?_ (fun hHeld=>?_)
    ·exact V ab
    clear hK K
    try simp only[Act.put,sa9,sb9,sc9]
    refine tk9 7 (.int .i64 ((sn:Int)+1)) ?_;refine rd9 8 fun K hK=>?_;go_simp;refine hK.out _ _ ?_ (fun hHeld=>?_)
    ·exact V aD
    clear hK K;refine wpAnyH_done f4y ?_ _;clear hHeld bn aH ab aD;generalize setBlock U.drew (w.heap.size+2) (.map Y ay)=W7 at *;go_wp2
    go_roundw
    case rel=>exact⟨k+1,g2E,f6J,by rw[aI];exact V aS⟩
    case measure=>exact g7W
   ·have be:(r.kind==7)=false:=b0f y
    have aR:Hid (Cst w Q (rs.take k++[r]) (rs.take k++[r])):=by
     have hp:x3m (rs.take k++[r])=x3m (rs.take k):=funext fun v=>x7n fun a b _ q=>y q.1;have hs:secC (rs.take k++[r])=secC (rs.take k):=funext fun v=>x8T fun b _ q=>y q.1;have h:=V Z;exact⟨h.bel,h.sz,h.res,h.hx,by rw[hp];exact h.mp,by rw[hs];exact h.ms⟩
    clear Z ae az y;generalize r.kind=kd at *;go_wp2
    go_roundw
    case rel=>exact⟨k+1,g2E,f6J,by rw[aI];exact V aR⟩
    case measure=>exact g7W
  ·obtain rfl:k=rs.length:=f6J;rw[List.take_of_length_le (l0r _)]at H;have hX:=H.hx;have y0:=cell_of (j:=0) hX n5Z;have y1:=cell_of (j:=1) hX w2h;have F1:=H.res;have z0:=cell_of (j:=0) F1 n5Z;have z1:=cell_of (j:=1) F1 w2h;have f0:=fun j=>x0d (j:=j) F1;obtain⟨F2,F3⟩:=H.fin;have f:=O F2;have aG:=O F3;clear D aw X H hX F1 F2 F3;go_wp2;have t:=V f;have aL:=V aG;clear f aG y0 y1 f0 z0 z1;generalize(wr.setCell ⟨w.heap.size,0,none⟩ (.map (some (w.heap.size+1)))).setCell ⟨w.heap.size,1,none⟩ (.map (some (w.heap.size+2)))=bF at *;have z0:=cell_of (j:=0) t n5Z;have z1:=cell_of (j:=1) t w2h;refine bodyPost_ret (v:=.agg #[.map (some (w.heap.size+1)),.map (some (w.heap.size+2))]) (by simp[results,Tryz.results96,go_sem,z0,z1]) rfl aL
open Go.RowKit Go.MapKept Go.WideMaps
open Go.ChangeMaps (setBlock)
open Go.Lib (minS maxS run_min_strs run_max_strs)
def MxAt(w:World)(r:Nat):Prop:=∃c,GAt KN w r c
theorem z0f{w:World}{r:Nat}{a b:ByteArray}(h:MxAt w r)(d:Sh a)(Y:Sh b)(v:Value):∃U cl,(Instr.mapUpdate 99 (.map (some r)) (pk a b) v).run prog w=.ok () (setBlock w r (.map U cl))/\∃c,GObj KN U cl c:=by
 obtain⟨c,h⟩:=h;have dec:∀x:Value,Decidable (x=pk a b):=fun x=>Classical.propDecidable _;obtain⟨U,cl,Z,D⟩:=x9w (M:=99) (c':=fun x=>@ite _ (x=pk a b) (dec x) (some v) (c x)) klN underlying99 h ⟨a,b,rfl,d,Y⟩ (if_pos rfl) (fun x A=>if_neg A);exact⟨U,cl,Z,_,D⟩
theorem x6F(a b:ByteArray)(w:World):Calls prog 150 #[.string a,.string b] w fun e w'=>e=.returned (pk (minS a b) (maxS a b))/\Bw w w':=by
 have Z:=@run_min_strs prog;have D:=@run_max_strs prog;unfold pk;go_enter func150,ntmps150;go_wp2;go_returns;exact⟨rfl,(b0r).alloc (l0r _) _⟩
structure Mst(w wr:World):Prop where
 bel:Below w.heap.size w wr
 sz:w.heap.size+3<=wr.heap.size
 res:wr.heap[w.heap.size]?=some (.cells #[.map none] 101 (0,0))
 hx:wr.heap[w.heap.size+2]?=some (.cells #[.map (some (w.heap.size+1))] 101 (0,0))
 mp:MxAt wr (w.heap.size+1)
theorem Mst.below{w wr w':World}(h:Mst w wr)(Y:Bw wr w'):Mst w w':=by
 have F:=h.sz;obtain⟨c,t,X,u,d⟩:=h.mp;exact⟨bthen h.bel Y,Nat.le_trans F Y.size,by rw[Y.block _ f6J];exact h.res,by rw[Y.block _ f6J];exact h.hx,c,t,X,by rw[Y.block _ f6J];exact u,d⟩
theorem Mst.more{w wr:World}(h:Mst w wr){U:Array MapEntry}{cl:Nat}(C:∃c,GObj KN U cl c):Mst w (setBlock wr (w.heap.size+1) (.map U cl)):=by
 have F:=h.sz;obtain⟨c,C⟩:=C;exact⟨x3z h.bel f6J _,u4D,n7Y,m4C,c,U,cl,x3K f6J,C⟩
def MxtB(w:World)(e:Ending)(w':World):Prop:=∃r,e=.returned (.agg #[.map (some r)])/\w.heap.size<=r/\MxAt w' r/\Below w.heap.size w w'
theorem Mst.fin{w wr:World}(h:Mst w wr):(wr.setCell ⟨w.heap.size,0,none⟩ (.map (some (w.heap.size+1)))).heap[w.heap.size]?=some (.cells #[.map (some (w.heap.size+1))] 101 (0,0))/\MxtB w (.returned (.agg #[.map (some (w.heap.size+1))])) (wr.setCell ⟨w.heap.size,0,none⟩ (.map (some (w.heap.size+1)))):=by
 obtain⟨c,t,X,u,d⟩:=h.mp;exact⟨by rw[x0c h.res];rfl,_,rfl,f6J,⟨c,t,X,by rw[x0e _ f6J];exact u,d⟩,x0b h.bel (l0r _) _⟩
theorem z7L(w:World):∃W1 x L,w.alloc (.cells #[.map none] 101)=W1/\W1.alloc (.map #[] 0)=x/\x.alloc (.cells #[.map (some (w.heap.size+1))] 101)=L/\W1.heap.size=w.heap.size+1/\x.heap.size=w.heap.size+2/\Mst w L:=by
 refine⟨_,_,_,rfl,rfl,rfl,M7N,M7N,?_⟩;have Y:Bw w (((w.alloc (.cells #[.map none] 101)).alloc (.map #[] 0)).alloc (.cells #[.map (some (w.heap.size+1))] 101)):=(((b0r).alloc (l0r _) _).alloc M7N _).alloc P8P _;refine⟨Y,M7N,?_,?_,fun _=>none,#[],0,?_,y9k _ _ fun _=>rfl⟩
 ·show(((w.heap.push _).push _).push _)[w.heap.size]?=_;rw[Array.getElem?_push,Array.getElem?_push,Array.getElem?_push];exact m7X
 ·show(((w.heap.push _).push _).push _)[w.heap.size+2]?=_;rw[Array.getElem?_push,Array.getElem?_push,Array.getElem?_push];simp only[Array.size_push];rw[if_pos trivial]
 ·show(((w.heap.push _).push _).push _)[w.heap.size+1]?=_;rw[Array.getElem?_push,Array.getElem?_push,Array.getElem?_push];exact v6h
structure Mbx(W:World)(g x m1:Nat)(nm ot:ByteArray)(wt:Nat):Prop where
 name:W.cell? ⟨g,5,none⟩=some (.string nm)
 other:W.cell? ⟨g,6,none⟩=some (.string ot)
 wt:W.cell? ⟨g,7,none⟩=some (.float .f64 wt)
 x0:W.cell? ⟨x,0,none⟩=some (.map (some m1))
theorem Mbx.below{W R:World}{g x u wt:Nat}{c M:ByteArray}(h:Mbx W g x u c M wt)(Y:Bw W R):Mbx R g x u c M wt :=
 ⟨u7C,M7T,t0A,w6u⟩
theorem Mbx.block{W:World}{g x u r wt:Nat}{c M:ByteArray}(h:Mbx W g x u c M wt){U:Array MapEntry}{cl:Nat}(o:Obj)(hr:W.heap[r]?=some (.map U cl)):Mbx (setBlock W r o) g x u c M wt:=by
 have k:∀S j v,W.cell? ⟨S,j,none⟩=some v->(setBlock W r o).cell? ⟨S,j,none⟩=some v:=fun S j v I=>e6d
 exact⟨k _ _ _ h.name,k _ _ _ h.other,k _ _ _ h.wt,k _ _ _ h.x0⟩
theorem x8g(v:Value)(rs:List Rec)(w:World)(N:Rcs w v rs)(l:∀r∈rs,r.kind=15->Sh r.name/\Sh r.other):Calls prog 97 #[v] w (MxtB w):=by
 obtain⟨W1,W2,W3,T,aD,aF,aJ,aK,P⟩:=z7L w;have aM:=N.1;obtain⟨ao,M,aj,_,_⟩:=N.shape
 have D:Hid (∀k W,k<rs.length->Bw w W->∃b R,v=.slice (some ⟨b,R,none⟩) rs.length M/\RecAt W b (R+k*8) (rs.getD k Cn.none)):=fun k W G hW=>by
  obtain⟨b,R,aL,he,_,_,hc⟩:=(N.below hW).place f6J;rw[aj]at he;obtain⟨e1,e2,e3⟩:=Value.slice.inj he;refine⟨b,R,?_,hc k G⟩;rw[aj,e1]
 have X:Hid (∀k,k<rs.length->(rs.getD k Cn.none).kind=15->Sh (rs.getD k Cn.none).name/\Sh (rs.getD k Cn.none).other):=fun k G h=>l _ w8c h;have am:=O P;have aI:=y2d;clear N l P;subst aj;go_enter func97,ntmps97;go_wp2;clear aI;go_loopw[5,10] (fun _ iv wr=>∃k:Nat,iv=.int .i64 k/\k<=rs.length/\Mst w wr) (fun _ iv _=>rs.length-(intOf iv).toNat)
 case atStart=>exact⟨0,rfl,f6J,V am⟩
 case round =>
  obtain⟨k,rfl,G,H⟩:=hrel;clear am T aD aF aJ aK;by_cases az:k<rs.length
  ·obtain⟨b,R,he,hA⟩:=V D k wr az H.bel;obtain⟨q1,_,_⟩:=Value.slice.inj he;clear he;subst q1;have A:=V X k az;obtain⟨x0,x1,x2,x3,⟨va,x4,aB⟩,x5,x6,x7⟩:=hA;obtain⟨aC,J,rfl,_,_⟩:=aB.shape;clear D X aB;generalize rs.getD k Cn.none=r at *;obtain⟨Q,aq⟩:∃Q,wr.alloc (.cells #[.int .i64 r.kind,.int .i64 r.lo,.int .i64 r.hi,.int .i64 r.n,.slice aC r.to.length J,.string r.name,.string r.other,.float .f64 r.wt] 60)=Q:=⟨_,rfl⟩;have ar:Bw wr Q:=by rw[<- aq];exact(b0r).alloc (l0r _) _
   have B:Q.heap[wr.heap.size]?=some (.cells #[.int .i64 r.kind,.int .i64 r.lo,.int .i64 r.hi,.int .i64 r.n,.slice aC r.to.length J,.string r.name,.string r.other,.float .f64 r.wt] 60 (0,0)):=by
    rw[<- aq];exact s6Q
   have af:=H.below ar;have aP:∀W a m,(store a (.float .f64 r.wt) m).run prog W=stored prog W a (.float .f64 r.wt) m:=fun W a m=>run_store prog W a _ m rfl;obtain⟨z0,z1,z2,z3,z4,z5,z6,z7⟩:=x4H B;have Z:=O af;have x:Hid (Mbx Q wr.heap.size (w.heap.size+2) (w.heap.size+1) r.name r.other r.wt):=⟨z5,z6,z7,cell_of (j:=0) af.hx w8q⟩;clear H af ar B;by_cases y:r.kind=15
   ·obtain⟨sa,sb⟩:=A y;have ai:=z5H sa sb;have KE:Hid (∀W,Calls prog 150 #[.string r.name,.string r.other] W fun e w'=>e=.returned (pk (minS r.name r.other) (maxS r.name r.other))/\Bw W w'):=fun W=>x6F _ _ W;have E:Hid (∀W,Calls prog 149 #[.float .f64 r.wt] W fun e w'=>∃u n,e=.returned (.float .f64 u)/\w'=W.drewN n):=fun W=>y3e r.wt W;have C:Hid (∀W u,MxAt W (w.heap.size+1)->∃U q,(Instr.mapUpdate 99 (.map (some (w.heap.size+1))) (pk (minS r.name r.other) (maxS r.name r.other)) (.float .f64 u)).run prog W=.ok () (setBlock W (w.heap.size+1) (.map U q))/\∃c,GObj KN U q c):=fun W u h=>z0f h ai.1 ai.2 _;unfold pk at KE C;have L:Hid (Mbx Q.drew wr.heap.size (w.heap.size+2) (w.heap.size+1) r.name r.other r.wt):=(V x).below (x0i ⟨1,rfl⟩);have Y:Hid (Mst w Q.drew):=(V Z).below (x0i ⟨1,rfl⟩);generalize minS r.name r.other=k1,maxS r.name r.other=k2,hkd:r.kind=kd at *;have aG:(kd==15)=true:=(by rw[beq_iff_eq];exact y);clear hkd y A sa sb ai x Z;go_wp2;clear x0 x1 x2 x3 x4 x5 x6 x7 z0 z1 z2 z3 z4 z5 z6 z7;refine wp_region_held_drew (S:=fun w'=>Mbx w' wr.heap.size (w.heap.size+2) (w.heap.size+1) r.name r.other r.wt) f4y (V L) (fun hHeld=>?_);refine tk9 0 (.pointer (some ⟨w.heap.size+2,0,none⟩)) ?_ (hy:=t1C);refine tk9 1 (.map (some (w.heap.size+1))) ?_ (hy:=t1C);refine tk9 2 (.pointer (some ⟨wr.heap.size,5,none⟩)) ?_ (hy:=t1C);refine tk9 3 (.string r.name) ?_ (hy:=t1C);refine tk9 4 (.pointer (some ⟨wr.heap.size,6,none⟩)) ?_ (hy:=t1C);refine tk9 5 (.string r.other) ?_ (hy:=t1C);refine tk9 7 (.pointer (some ⟨wr.heap.size,7,none⟩)) ?_ (hy:=t1C);refine tk9 8 (.float .f64 r.wt) ?_ (hy:=t1C);refine rd9 6 fun K hK=>?_;go_simp;refine c1m (V KE _) fun w2 ag=>?_;have i:Hid (Mbx w2 wr.heap.size (w.heap.size+2) (w.heap.size+1) r.name r.other r.wt):=(V L).below ag;have d:Hid (Mst w w2):=(V Y).below ag;clear ag;refine hK.out _ _ ?_ (fun hHeld=>?_)
    ·exact V i
    clear hK K
    try simp only[Act.put,sa9,sb9,sc9]
    refine rd9 9 fun K hK=>?_;go_simp;refine(V E _).mono ?_;rintro e3 w3 ⟨u3,n3,rfl,z⟩;have t:Bw w2 w3:=(by rw[z];exact x0i ⟨n3,rfl⟩);clear z;have ae:Hid (Mbx w3 wr.heap.size (w.heap.size+2) (w.heap.size+1) r.name r.other r.wt):=(V i).below t;have ab:Hid (Mst w w3):=(V d).below t;obtain⟨U,q,hu,ay⟩:=V C w3 u3 (V ab).mp;have p:=O ((V ab).more ay)
    have F:Hid (Mbx (setBlock w3 (w.heap.size+1) (.map U q)) wr.heap.size (w.heap.size+2) (w.heap.size+1) r.name r.other r.wt):=by
     obtain⟨_,aO,aN,aH,_⟩:=(V ab).mp;exact(V ae).block _ aH
    clear t ay;refine hK.out _ _ ?_ (fun hHeld=>?_)
    ·exact V ae
    clear hK K
    try simp only[Act.put,sa9,sb9,sc9]
    refine rd9 10 fun K hK=>?_;go_simp;refine hK.out _ _ ?_ (fun hHeld=>?_)
    ·exact V F
    clear hK K;refine wpAnyH_done f4y ?_ _;clear hHeld hu L i ae F Y d ab KE E C;generalize setBlock w3 (w.heap.size+1) (.map U q)=W5 at *;go_wp2
    go_roundw
    case rel=>exact⟨k+1,g2B,f6J,V p⟩
    case measure=>exact g7W
   ·have aG:(r.kind==15)=false:=b0f y;clear x A y;generalize r.kind=kd at *;go_wp2
    go_roundw
    case rel=>exact⟨k+1,g2B,f6J,V Z⟩
    case measure=>exact g7W
  ·obtain rfl:k=rs.length:=f6J;have hX:=H.hx;have y0:=cell_of (j:=0) hX w8q;have F1:=H.res;have z0:=cell_of (j:=0) F1 w8q;have f0:=fun j=>x0d (j:=j) F1;obtain⟨F2,F3⟩:=H.fin;have f:=O F2;have I:=O F3;clear D X H hX F1 F2 F3;go_wp2;have aA:=V f;have aw:=V I;clear f I y0 f0 z0;generalize wr.setCell ⟨w.heap.size,0,none⟩ (.map (some (w.heap.size+1)))=aQ at *;have z0:=cell_of (j:=0) aA w8q;refine bodyPost_ret (v:=.agg #[.map (some (w.heap.size+1))]) (by simp[results,Tryz.results97,go_sem,z0]) rfl aw
