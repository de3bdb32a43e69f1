/- Lemmas. -/
import Derived.Test.YtkfcabdmkmljjaaGreatDoorF33
import Derived.Deep.DeepCutAuto
import Derived.Deep.CutBlock
import Derived.Lib.MinMaxS
import Derived.Laws.MakeOwn
set_option maxHeartbeats 4000000
set_option maxRecDepth 8000
namespace Go.Proofs.YtkfcabdmkmljjaaGreatDoor
open Go.Proofs.Tryz
open Go.RowKit
section
variable{p:Prop}
theorem u9b(h:p:=by unfold LdAt at *;rw[x0c h];rfl):p:=h
theorem i4A(h:p:=by generalize s.1=out at *;go_enter func164,ntmps164;go_wp2_with(at_builtin;refine y3D rfl (.tmp 32) (.tmp 34) rfl B _ _ out [c] rfl rfl (x2e (V Y) _) (y1a _ M7L c (V H)) (by first| omega|(simp;omega)) S7x ?_);intro p C F E;obtain⟨a,g2⟩:=V D _ C (V H1) (V Y) (V R) _ p F E;have P:=a.c0;have z:=a.fz 0;have T:=O g2;obtain⟨X,A,i,_,_⟩:=F.sk.shape;subst i;rw[(M7L:(out++[c]).length=out.length+1)]at T;go_wp2;go_end0;exact V T):p:=h
theorem S7x(h:p:=by rw[x0A];exact f6J):p:=h
end
namespace Nm
variable {cl:Int->Int} {cp:Int->Int->Int×Bool}
def hgh(cl:Int->Int):List Int->Int
 | []=>-1
 | c::l=>max (cl c) (hgh cl l)
def blk(cl:Int->Int)(l:List Int)(k:Int):Bool:=l.any fun c=>decide (k<=cl c)
theorem z5X l{k}(G:0<=k):blk cl l k=decide (k<=hgh cl l):=by
 unfold blk
 induction l with
 | nil=>rw[hgh,d0f f6J];rfl
 | cons c l ih =>
  rw[List.any_cons,ih,hgh];by_cases Z:k<=cl c
  ·grind
  ·grind
theorem z3e l c:hgh cl (l++[c])=max (hgh cl l) (max (cl c) (-1)):=by
 induction l with
 | nil=>show max (cl c) (-1)=max (-1) (max (cl c) (-1));omega
 | cons d l ih=>rw[List.cons_append,hgh,ih,hgh];omega
theorem y9g l:-1<=hgh cl l:=by
 cases l with
 | nil=>exact Int.le_refl _
 | cons c l=>rw[hgh];have:=y9g l;omega
theorem z4Z{M:Int}(B:∀c,cl c<=M)(U:-1<=M) l:hgh cl l<=M:=by
 induction l with
 | nil=>exact U
 | cons c l ih=>rw[hgh];have:=B c;omega
def bhd(s:List Int×Int):List Int:=s.1.drop (s.2+1).toNat
def fits(cl:Int->Int)(cp:Int->Int->Int×Bool)(s:List Int×Int)(c:Int):Bool:=decide (0<=s.2)&&(!(blk cl (bhd s) (cl c))&&(cp (s.1.getD s.2.toNat 0) c).2)
def stp(cl:Int->Int)(cp:Int->Int->Int×Bool)(s:List Int×Int)(c:Int):List Int×Int:=if fits cl cp s c=true then(s.1.set s.2.toNat (cp (s.1.getD s.2.toNat 0) c).1,s.2)else(s.1++[c],if cl c=0 then(s.1.length:Int)else s.2)
def run(cl:Int->Int)(cp:Int->Int->Int×Bool)(X:List Int):List Int×Int:=X.foldl (stp cl cp) ([],-1)
def cps(cl:Int->Int)(cp:Int->Int->Int×Bool)(X:List Int):List Int:=(run cl cp X).1
theorem y4D X c:run cl cp (X++[c])=stp cl cp (run cl cp X) c:=by
 unfold run;rw[List.foldl_append];rfl
theorem z4k{X:List Int}{k}(h:k<X.length):run cl cp (X.take (k+1))=stp cl cp (run cl cp (X.take k)) (X.getD k 0):=by
 rw[List.take_add_one,<- y4D];exact p8I
def In(s:List Int×Int):Prop:=-1<=s.2/\s.2<s.1.length
theorem q0U{s}(h:In s) c:In (stp cl cp s c)/\(stp cl cp s c).1.length<=s.1.length+1:=by
 unfold In at *;unfold stp;split
 ·exact f4R
 ·simp;exact G7p
theorem z5r X:In (run cl cp X)/\(run cl cp X).1.length<=X.length:=by
 obtain⟨M,rfl⟩:∃M:List Int,X=M.reverse:=⟨X.reverse,by rw[List.reverse_reverse]⟩
 induction M with
 | nil=>exact⟨⟨Int.le_refl _,(e8M:(-1:Int)<0)⟩,l0r _⟩
 | cons c l ih =>
  rw[List.reverse_cons,y4D];have h:=q0U (cl:=cl) (cp:=cp) ih.1 c;refine⟨h.1,?_⟩;rw[List.length_append];have:=h.2;have:=ih.2;simp only[List.length_cons,List.length_nil];omega
theorem hgh_fit s p:bhd (s.1.set s.2.toNat p,s.2)=bhd s\/s.2<0:=by
 by_cases U:s.2<0
 ·exact .inr U
 ·refine .inl ?_;unfold bhd;rw[List.drop_set_of_lt];omega
theorem z6R(s:List Int×Int) c:bhd (s.1++[c],(s.1.length:Int))=[]:=by
 unfold bhd;rw[List.drop_eq_nil_iff];simp
theorem z6Q{s}(h:In s) c:bhd (s.1++[c],s.2)=bhd s++[c]:=by
 unfold bhd;obtain⟨Z,D⟩:=h;rw[List.drop_append_of_le_length];show(s.2+1).toNat<=s.1.length;omega
end Nm
def LdAt(w:World)(L:Nat)(v:Value)(st hi:Int):Prop:=w.heap[L]?=some (.cells #[v,.int .i64 st,.int .i64 hi] 197 (0,0))
section
variable {w:World} {L:Nat} {v:Value} {st hi:Int}
theorem LdAt.c0(h:LdAt w L v st hi):w.cell? ⟨L,0,none⟩=some v:=cell_of (j:=0) h T7b
theorem LdAt.c1(h:LdAt w L v st hi):w.cell? ⟨L,1,none⟩=some (.int .i64 st):=cell_of (j:=1) h f2O
theorem LdAt.c2(h:LdAt w L v st hi):w.cell? ⟨L,2,none⟩=some (.int .i64 hi):=cell_of (j:=2) h U4t
theorem LdAt.fz(h:LdAt w L v st hi) j:w.frozen? ⟨L,j,none⟩=false:=x0d h
theorem LdAt.lt(h:LdAt w L v st hi):L<w.heap.size:=x0a h.c0
theorem LdAt.below{w'}(h:LdAt w L v st hi)(Y:Bw w w'):LdAt w' L v st hi:=by
 unfold LdAt at *;rw[Y.block L (LdAt.lt h)];exact h
theorem LdAt.set0(h:LdAt w L v st hi) x:LdAt (w.setCell ⟨L,0,none⟩ x) L x st hi:=u9b
theorem LdAt.set1(h:LdAt w L v st hi) x:LdAt (w.setCell ⟨L,1,none⟩ (.int .i64 x)) L v x hi:=u9b
theorem LdAt.set2(h:LdAt w L v st hi) x:LdAt (w.setCell ⟨L,2,none⟩ (.int .i64 x)) L v st x:=u9b
theorem LdAt.apart(h:LdAt w L v st hi){B n u us}(R:w.ownsRow B 21 1 u n us):u.ownBlock≠some L:=by
 intro e;rcases R.2 with⟨rfl,_⟩ | ⟨g,M,t,rfl,_,H,_⟩
 ·cases e
 ·simp[Value.ownBlock]at e;subst e;unfold LdAt at h;rw[H]at h;simp at h
theorem LdAt.grown{w'}(h:LdAt w L v st hi){B n u us}(R:w.ownsRow B 21 1 u n us)(H:w.grownBy w' u.ownBlock):LdAt w' L v st hi:=by
 have E:=h.apart R;unfold LdAt at *;rw[H.block L (LdAt.lt h) (fun e=>E e.symm)];exact h
theorem LdAt.ok{j B x u zs}(h:LdAt w L v st hi)(R:Ok .i32 21 w B u zs):Ok .i32 21 (w.setCell ⟨L,j,none⟩ x) B u zs:=by
 refine⟨R.1,R.2.1,x0y R.2.2 fun g H=>?_⟩;exact x0e _ (fun e=>h.apart R.2.2 (by rw[<- e];exact H))
end
theorem z2m{w L v st hi}(h:LdAt w L v st hi) k:Calls prog 162 #[.pointer (some ⟨L,0,none⟩),.int .i64 k] w (fun e w'=>e=.returned (.bool (decide (k<=hi)))/\w'=w):=by
 have Q:=h.c2;go_enter func162,ntmps162;exact t6u
def LdS(cl:Int->Int)(w:World)(B L:Nat)(s:List Int×Int):Prop:=∃v,LdAt w L v s.2 (Nm.hgh cl (Nm.bhd s))/\Ok .i32 21 w B v s.1/\B<=L
def LayB(cl:Int->Int)(B L:Nat)(w:World)(s:List Int×Int)(e:Ending)(w':World):Prop:=e=.returned (.tuple #[])/\LdS cl w' B L s/\Below B w w'
theorem y1a(w:World){n}(F:n=w.heap.size) c(h:Rune c):Sk .i32 (w.alloc (.cells #[.int .i32 c] 21)) (.slice (some ⟨n,0,none⟩) 1 1) [c]:=by
 subst F;exact lit15 w [c] 1 rfl f6J f6J _ rfl (fun z u=>(U3E:z=c) ▸ h)
theorem lay18{cl}(ab:∀c,0<=cl c/\cl c<=254){w B L s}(l:Nm.In s)(hS:LdS cl w B L s) c(I:Rune c)(S:s.1.length<=10000000):Calls prog 164 #[.pointer (some ⟨L,0,none⟩),.int .i32 c,.int .i64 (cl c)] w (LayB cl B L w (s.1++[c],if cl c=0 then(s.1.length:Int)else s.2)):=by
 obtain⟨v,hA,m,r⟩:=hS;have y:=hA.lt;obtain⟨J,M,hv,d,aj⟩:=m.sk.shape;subst hv;have c0:=hA.c0;have g:=hA.c1;have c2:=hA.c2;have t:=hA.fz 0;have f1:=hA.fz 1;have f2:=hA.fz 2;have H:=O I;have G:=ab c;have ae:=Nm.y9g (cl:=cl) (Nm.bhd s);have Q:=Nm.z4Z (cl:=cl) (fun c=>(ab c).2) f6J (Nm.bhd s);by_cases u:cl c=0
 ·rw[if_pos u,u];have H1:=O ((hA.set1 (s.1.length:Int)).set2 (-1));have d1:=(hA.set1 (s.1.length:Int)).c2;have b:=(hA.set1 (s.1.length:Int)).fz 2;have K:=(V H1).c0;have Y:=O ((hA.set1 (s.1.length:Int)).ok (j:=2) (x:=.int .i64 (-1)) (hA.ok (j:=1) (x:=.int .i64 (s.1.length:Int)) m));have R:Hid (Below B w ((w.setCell ⟨L,1,none⟩ (.int .i64 (s.1.length:Int))).setCell ⟨L,2,none⟩ (.int .i64 (-1)))):=x0b (x0b (Below.refl B w) r _) r _
  have D:Hid (∀W N,LdAt W L (.slice J s.1.length M) (s.1.length:Int) (-1)->Ok .i32 21 W B (.slice J s.1.length M) s.1->Below B w W->∀o p,Ok .i32 21 N B p (s.1++[c])->(W.alloc o).grownBy N (Value.slice J s.1.length M).ownBlock->LdAt N L (.slice J s.1.length M) (s.1.length:Int) (-1)/\LayB cl B L w (s.1++[c],(s.1.length:Int)) (.returned (.tuple #[])) (N.setCell ⟨L,0,none⟩ p)):=fun W N Z h2 h3 o p F E=>by
   have q:=(Z.below ((Below.refl W.heap.size W).alloc (l0r _) o)).grown (x2e h2 o).2.2 E;have f:=h3.size;refine⟨q,rfl,⟨p,?_,q.ok F,r⟩,x0b ((h3.alloc f6J o).grown E S7x (fun k G=>(h2.2.2.lt k G).1)) r _⟩;show LdAt _ L p (s.1.length:Int) (Nm.hgh cl (Nm.bhd (s.1++[c],(s.1.length:Int))));rw[Nm.z6R];exact q.set0 p
  have f:=(V R).size;have n:B<=w.heap.size:=f6J;exact i4A
 ·rw[if_neg u];have H1:=O (hA.set2 (max (Nm.hgh cl (Nm.bhd s)) (cl c)));have K:=(V H1).c0;have Y:=O (hA.ok (j:=2) (x:=.int .i64 (max (Nm.hgh cl (Nm.bhd s)) (cl c))) m);have R:Hid (Below B w (w.setCell ⟨L,2,none⟩ (.int .i64 (max (Nm.hgh cl (Nm.bhd s)) (cl c))))):=x0b (Below.refl B w) r _
  have D:Hid (∀W N,LdAt W L (.slice J s.1.length M) s.2 (max (Nm.hgh cl (Nm.bhd s)) (cl c))->Ok .i32 21 W B (.slice J s.1.length M) s.1->Below B w W->∀o p,Ok .i32 21 N B p (s.1++[c])->(W.alloc o).grownBy N (Value.slice J s.1.length M).ownBlock->LdAt N L (.slice J s.1.length M) s.2 (max (Nm.hgh cl (Nm.bhd s)) (cl c))/\LayB cl B L w (s.1++[c],s.2) (.returned (.tuple #[])) (N.setCell ⟨L,0,none⟩ p)):=fun W N Z h2 h3 o p F E=>by
   have q:=(Z.below ((Below.refl W.heap.size W).alloc (l0r _) o)).grown (x2e h2 o).2.2 E;have f:=h3.size;refine⟨q,rfl,⟨p,?_,q.ok F,r⟩,x0b ((h3.alloc f6J o).grown E S7x (fun k G=>(h2.2.2.lt k G).1)) r _⟩;show LdAt _ L p s.2 (Nm.hgh cl (Nm.bhd (s.1++[c],s.2)));rw[Nm.z6Q l,Nm.z3e,(f6J:max (Nm.hgh cl (Nm.bhd s)) (max (cl c) (-1))=max (Nm.hgh cl (Nm.bhd s)) (cl c))];exact q.set0 p
  have f:=(V R).size;have n:B<=w.heap.size:=f6J;have U:(cl c==0)=false:=(by grind);exact i4A
theorem Ok.setAt18{K e w B g n cap}{zs}(h:Ok K e w B (.slice (some ⟨g,0,none⟩) n cap) zs) k z(u:Fit K [z]) :
  Ok K e (w.setCell ⟨g,k,none⟩ (.int K z)) B (.slice (some ⟨g,0,none⟩) n cap) (zs.set k z)/\w.frozen? ⟨g,k,none⟩=false:=by
 have Q:=h.row;rcases Q.2 with⟨U,_⟩ | ⟨S,A,t,N,Y,X,F,G,f,T⟩
 ·cases U
 ·exact W9S
theorem LdS.below{cl w w' B L s}(h:LdS cl w B L s)(Y:Bw w w'):LdS cl w' B L s:=by
 obtain⟨v,Z,D,J⟩:=h;exact⟨v,Z.below Y,D.below Y,J⟩
structure NmC(p:Nat)(cl:Int->Int)(cp:Int->Int->Int×Bool)(w0:World):Prop where
 cr:∀c,0<=cl c/\cl c<=254
 pr:∀a b,Rune a->Rune b->Rune (cp a b).1
 c:∀c,Rune c->∀W,Below w0.heap.size w0 W->Calls prog 161 #[.pointer (some ⟨p,0,none⟩),.int .i32 c] W (IntB W (cl c))
 k:∀a b,Rune a->Rune b->∀W,Below w0.heap.size w0 W->Calls prog 163 #[.pointer (some ⟨p,0,none⟩),.int .i32 a,.int .i32 b] W (fun e w'=>e=.returned (.tuple #[.int .i32 (cp a b).1,.bool (cp a b).2])/\w'=W)
theorem q1g{p cl cp w0}(o:NmC p cl cp w0){w L s}(Y:Bw w0 w)(l:Nm.In s)(hS:LdS cl w w0.heap.size L s) c(hc:Rune c)(hl:s.1.length<=10000000):Calls prog 113 #[.pointer (some ⟨L,0,none⟩),.pointer (some ⟨p,0,none⟩),.int .i32 c] w (LayB cl w0.heap.size L w (Nm.stp cl cp s c)):=by
 have H:=O (o.c c hc w Y);have aq:=o.cr c;have ab:=Y.size;have KL:Hid (∀W,Bw w W->Calls prog 164 #[.pointer (some ⟨L,0,none⟩),.int .i32 c,.int .i64 (cl c)] W (LayB cl w0.heap.size L w (s.1++[c],if cl c=0 then(s.1.length:Int)else s.2))):=fun W U=>(lay18 o.cr l (hS.below U) c hc hl).mono fun e C h=>⟨h.1,h.2.1,(U.mono ab).trans h.2.2⟩;have ay:=Nm.y9g (cl:=cl) (Nm.bhd s);have aA:=Nm.z4Z (cl:=cl) (fun c=>(o.cr c).2) f6J (Nm.bhd s);have S:=l.1;have aB:=l.2;by_cases h0:s.2<0
 ·have i:s.2=-1:=by omega
  have b:Nm.stp cl cp s c=(s.1++[c],if cl c=0 then(s.1.length:Int)else s.2):=by
   unfold Nm.stp Nm.fits;rw[d0f f6J];rfl
  have B:Hid (∀W,Bw w W->W.cell? ⟨L,1,none⟩=some (.int .i64 (-1))):=fun W U=>by
   obtain⟨v,Z,_,_⟩:=hS.below U;rw[<- i];exact Z.c1
  rw[b];generalize(s.1++[c],if cl c=0 then(s.1.length:Int)else s.2)=s2 at *;go_enter func113,ntmps113;go_wp2_with fail;refine c0m H fun Q b1=>?_;have d:=V B Q b1;have j:=O (V KL Q b1);go_wp2_with fail;refine(V j).mono ?_;rintro e u h2;obtain⟨rfl,h2⟩:=h2;have T:=O h2;go_wp2;go_end0;exact⟨rfl,V T⟩
 ·obtain⟨st,b⟩:∃st:Nat,s.2=(st:Int):=⟨s.2.toNat,f6J⟩;have f:st<s.1.length:=f6J;have t:s.2.toNat=st:=f6J;obtain⟨v0,am,G,r⟩:=hS;obtain⟨g,M,hv,aw,ar⟩:=z0s G.row f6J;subst hv;have R:w0.heap.size<=g:=(G.2.2.lt g V3O).1;have HA:Hid (∀W,Bw w W->LdAt W L (.slice (some ⟨g,0,none⟩) s.1.length M) (st:Int) (Nm.hgh cl (Nm.bhd s))/\Ok .i32 21 W w0.heap.size (.slice (some ⟨g,0,none⟩) s.1.length M) s.1):=fun W U=>⟨b ▸ am.below U,G.below U⟩;have x:Rune (s.1.getD st 0):=x0V G.sk f
  have A:Hid (∀W,Bw w W->W.cell? ⟨g,st,none⟩=some (.int .i32 (s.1.getD st 0))):=fun W U=>by
   obtain⟨b3,o3,q3,N,_,_,J⟩:=(G.below U).sk.place f6J;simp only[Value.slice.injEq,Option.some.injEq,Addr.mk.injEq]at N;obtain⟨⟨rfl,rfl,_⟩,_,_⟩:=N;have h4:=J st f;rwa [Nat.zero_add]at h4
  have KK:Hid (∀W,Bw w W->Calls prog 163 #[.pointer (some ⟨p,0,none⟩),.int .i32 (s.1.getD st 0),.int .i32 c] W (fun e C=>e=.returned (.tuple #[.int .i32 (cp (s.1.getD st 0) c).1,.bool (cp (s.1.getD st 0) c).2])/\C=W)):=fun W U=>o.k _ _ x hc W (bthen Y U);have aj:=O (o.pr _ _ x hc)
  have F:Hid ((Nm.blk cl (Nm.bhd s) (cl c)=true\/(cp (s.1.getD st 0) c).2=false)->Nm.stp cl cp s c=(s.1++[c],if cl c=0 then(s.1.length:Int)else s.2)):=fun h=>by
   unfold Nm.stp Nm.fits;rw[t];rcases h with h | h<;>rw[h]<;>simp
  have I:Hid (Nm.blk cl (Nm.bhd s) (cl c)=false->(cp (s.1.getD st 0) c).2=true->Nm.stp cl cp s c=(s.1.set st (cp (s.1.getD st 0) c).1,s.2)):=fun Z h2=>by
   unfold Nm.stp Nm.fits;rw[t,Z,h2,d0t f6J];rfl
  have ae:Hid (∀q,Nm.bhd (s.1.set st q,s.2)=Nm.bhd s):=fun q=>by
   rcases Nm.hgh_fit s q with h | h
   ·rw[t]at h;exact h
   ·omega
  have K:=O (Nm.z5X (cl:=cl) (Nm.bhd s) aq.1)
  have KB:Hid (∀W,Bw w W->Calls prog 162 #[.pointer (some ⟨L,0,none⟩),.int .i64 (cl c)] W (fun e C=>e=.returned (.bool (Nm.blk cl (Nm.bhd s) (cl c)))/\C=W)):=fun W U=>by
   have:=z2m (V HA W U).1 (cl c);rw[<- V K]at this;exact this
  have E:Hid (∀q W,Rune q->Bw w W->W.frozen? ⟨g,st,none⟩=false/\LayB cl w0.heap.size L w (s.1.set st q,s.2) (.returned (.tuple #[])) (W.setCell ⟨g,st,none⟩ (.int .i32 q))):=fun q W hq U=>by
   obtain⟨a1,P⟩:=V HA W U;obtain⟨o1,f1⟩:=P.setAt18 st q (fun z hz=>by rw[List.mem_singleton]at hz;rw[hz];exact x0O hq);refine⟨f1,rfl,⟨.slice (some ⟨g,0,none⟩) s.1.length M,?_,o1,r⟩,x0b (U.mono ab) R _⟩;show LdAt _ L _ s.2 (Nm.hgh cl (Nm.bhd (s.1.set st q,s.2)));rw[V ae q,b];have y:L≠g:=fun e=>a1.apart P.2.2 (by rw[e];rfl);unfold LdAt;rw[x0e _ y];exact a1
  generalize Nm.blk cl (Nm.bhd s) (cl c)=bk,(s.1++[c],if cl c=0 then(s.1.length:Int)else s.2)=s2 at *;have B:Hid (∀W,Bw w W->W.cell? ⟨L,1,none⟩=some (.int .i64 (st:Int))/\W.cell? ⟨L,0,none⟩=some (.slice (some ⟨g,0,none⟩) s.1.length M)):=fun W U=>⟨(V HA W U).1.c1,(V HA W U).1.c0⟩;generalize cl c=k at *
  cases bk with
  | true =>
   rw[V F (.inl rfl)];go_enter func113,ntmps113;go_wp2_with fail;refine c0m H fun Q b1=>?_;obtain⟨d,x0⟩:=V B Q b1;have K1:=O (V KB Q b1);have j:=O (V KL Q b1);go_wp2_with fail;refine(V K1).mono ?_;rintro e u ⟨rfl,rfl⟩;go_wp2_with fail;refine(V j).mono ?_;rintro e w3 J;obtain⟨rfl,J⟩:=J;have T:=O J;go_wp2;go_end0;exact⟨rfl,V T⟩
  | false =>
   go_enter func113,ntmps113;go_wp2_with fail;refine c0m H fun Q b1=>?_;obtain⟨d,x0⟩:=V B Q b1;have x3:=V A Q b1;have K1:=O (V KB Q b1);have j:Hid (∀m:Nat,Calls prog 164 #[.pointer (some ⟨L,0,none⟩),.int .i32 c,.int .i64 k] (Q.drewN m) (LayB cl w0.heap.size L w s2)):=fun m=>V KL _ (bthen b1 (x0i ⟨m,rfl⟩));have K3:=fun m:Nat=>O (V KK (Q.drewN m) (bthen b1 (x0i ⟨m,rfl⟩)));have D:Hid (∀W,Bw Q W->W.frozen? ⟨g,st,none⟩=false/\LayB cl w0.heap.size L w (s.1.set st (cp (s.1.getD st 0) c).1,s.2) (.returned (.tuple #[])) (W.setCell ⟨g,st,none⟩ (.int .i32 (cp (s.1.getD st 0) c).1))):=fun W U=>V E _ W (V aj) (bthen b1 U);generalize(s.1.set st (cp (s.1.getD st 0) c).1,s.2)=s3 at *;generalize(cp (s.1.getD st 0) c).1=q at *;generalize(cp (s.1.getD st 0) c).2=ok at *;generalize s.1.getD st 0=a at *;generalize Nm.stp cl cp s c=s4,s.1.length=n at *;go_wp2_with fail;refine(V K1).mono ?_;rintro e u ⟨rfl,rfl⟩
   cases ok with
   | false =>
    obtain rfl:s4=s2:=V F M7L;go_wp2;go_quiet(first| (go_at_call 163;exact Calls.quiet_of_same (V (K3 _))));go_wp2_with fail;refine(V j _).mono ?_;rintro e w3 J;obtain⟨rfl,J⟩:=J;have T:=O J;go_wp2;go_end0;exact i5u
   | true =>
    obtain rfl:s4=s3:=V I M7L M7L;go_wp2;go_quiet(first| (go_at_call 163;exact Calls.quiet_of_same (V (K3 _))));go_wp2;have f3:=(V D u (b0r)).1;have X:Hid (∀m:Nat,LayB cl w0.heap.size L w s4 (.returned (.tuple #[])) ((u.drewN m).setCell ⟨g,st,none⟩ (.int .i32 q))):=fun m=>(V D _ (x0i ⟨m,rfl⟩)).2;go_region;go_wp2;go_end0;exact V X _
namespace Nm
variable {cl:Int->Int} {cp:Int->Int->Int×Bool}
end Nm
theorem q0e(n:Nat) w B(m:B<=w.heap.size)(F:n<=3000000):∃W,(Instr.makeSlice 36 (.int .i64 0) (.int .i64 (n:Int))).run prog w=.ok (.slice (some ⟨w.heap.size,0,none⟩) 0 n) W/\Ok .i32 21 W B (.slice (some ⟨w.heap.size,0,none⟩) 0 n) []/\w.grownBy W none:=by
 obtain⟨i,hi,q,Y,U⟩:=info_parts y2H;exact s4b
theorem y5p{p cl cp w}(o:NmC p cl cp w){xv X}(A:Sk .i32 w xv X)(t:X.length<=3000000):Calls prog 65 #[.pointer (some ⟨p,0,none⟩),xv] w (x0h w (Nm.cps cl cp X)):=by
 have H:Hid (∀(k:Nat),k<X.length->∃b P M,xv=.slice (some ⟨b,P,none⟩) X.length M/\∀W,Bw w W->W.cell? ⟨b,P+k,none⟩=some (.int .i32 (X.getD k 0))):=fun k G=>r7T
 have R:Hid (∀k L wr,k<X.length->Bw w wr->LdS cl wr w.heap.size L (Nm.run cl cp (X.take k))->Calls prog 113 #[.pointer (some ⟨L,0,none⟩),.pointer (some ⟨p,0,none⟩),.int .i32 (X.getD k 0)] wr (LayB cl w.heap.size L wr (Nm.run cl cp (X.take (k+1))))):=fun k L wr G Y hS=>by
  rw[Nm.z4k G];have hi:=Nm.z5r (cl:=cl) (cp:=cp) (X.take k);have:=hi.2;rw[List.length_take]at this;exact q1g o Y hi.1 hS _ (x0V A G) f6J
 obtain⟨y,ab,i,g0⟩:=q0e X.length w w.heap.size (l0r _) t;have f:Bw w y:=(b0r).grown g0 (l0r _) (fun k G=>g6D);have m:=f.size
 have F:Hid (LdS cl (y.alloc (.cells #[.slice (some ⟨w.heap.size,0,none⟩) 0 X.length,.int .i64 (-1),.int .i64 (-1)] 197)) w.heap.size y.heap.size (Nm.run cl cp (X.take 0))):=by
  refine⟨.slice (some ⟨w.heap.size,0,none⟩) 0 X.length,?_,x2e i _,m⟩;show(y.heap.push _)[y.heap.size]?=_;rw[List.take_zero];simp;exact⟨rfl,rfl⟩
 have a:Hid (Bw w (y.alloc (.cells #[.slice (some ⟨w.heap.size,0,none⟩) 0 X.length,.int .i64 (-1),.int .i64 (-1)] 197))):=f.alloc m _
 have D:Hid (∀L wr,LdS cl wr w.heap.size L (Nm.run cl cp (X.take X.length))->Bw w wr->∃v,wr.cell? ⟨L,0,none⟩=some v/\(∃J n M,v=.slice J n M)/\x0h w (Nm.cps cl cp X) (.returned v) wr):=fun L wr h Y=>by
  rw[List.take_length]at h;obtain⟨v,Z,z,_⟩:=h;obtain⟨J,M,e,_,_⟩:=z.sk.shape;exact⟨v,Z.c0,⟨J,_,M,e⟩,v,rfl,z,Y⟩
 obtain⟨J,M,rfl,_,_⟩:=A.shape;clear o A i g0 f;generalize Nm.cps cl cp X=out at *;go_enter func65,ntmps65;go_wp2;generalize hLe:y.heap.size=L at *;clear hLe;go_loopw[7,14] (fun _ iv wr=>∃k:Nat,iv=.int .i64 k/\k<=X.length/\LdS cl wr w.heap.size L (Nm.run cl cp (X.take k))/\Bw w wr) (fun _ iv _=>X.length-(intOf iv).toNat)
 case atStart=>exact⟨0,rfl,f6J,V F,V a⟩
 case round =>
  obtain⟨k,rfl,G,hS,C⟩:=hrel;clear F a ab;by_cases E:k<X.length
  ·have r:(k:Int)<X.length:=f6J;obtain⟨b,P,g,s,S⟩:=V H k E;simp only[Value.slice.injEq]at s;obtain⟨rfl,-,rfl⟩:=s;have j:=S wr C;have K:=O (V R k L wr E C hS);have N:=O C;have B:Hid (∀W,LdS cl W w.heap.size L (Nm.run cl cp (X.take (k+1)))->Bw w W->∃n:Nat,Value.int .i64 ((k:Int)+1)=.int .i64 (n:Int)/\n<=X.length/\LdS cl W w.heap.size L (Nm.run cl cp (X.take n))/\Bw w W):=fun W Z z=>⟨k+1,g2A,f6J,Z,z⟩;clear hS S C H R D;generalize Nm.run cl cp (X.take (k+1))=s2,X.getD k 0=c at *;go_wp2_with fail;refine(V K).mono ?_;rintro e Q ⟨rfl,Z,z⟩;have T:=O (V B Q Z ((V N).trans z));clear K N B Z z j;go_wp2
   go_roundw
   case rel=>exact V T
   case measure=>exact g7T
  ·have x:k=X.length:=f6J;subst x;obtain⟨v,d,⟨l,q,ae,rfl⟩,hF⟩:=V D L wr hS C;have T:=O hF;clear hS C H R D hF;go_wp2;go_ret;exact V T
def NfdC(p:Nat)(nf:List Int->List Int)(w0:World):Prop:=(∀X,(nf X).length<=32*X.length)/\∀xv X W,Below w0.heap.size w0 W->Sk .i32 W xv X->X.length<=65536->Calls prog 64 #[.pointer (some ⟨p,0,none⟩),xv] W (fun e w'=>∃v,e=.returned (.tuple #[v,.int .i64 0])/\Ok .i32 21 w' W.heap.size v (nf X)/\Below W.heap.size W w')
theorem NmC.on{p cl cp w W}(h:NmC p cl cp w)(Y:Bw w W):NmC p cl cp W:=⟨h.cr,h.pr,fun c I N U=>h.c c I N (bthen Y U),fun a b E t N U=>h.k a b E t N (bthen Y U)⟩
theorem q0m{p cl cp nf}{w}(o:NmC p cl cp w)(I:NfdC p nf w){xv X}(A:Sk .i32 w xv X)(t:X.length<=65536):Calls prog 34 #[.pointer (some ⟨p,0,none⟩),xv] w (fun e w'=>∃v,e=.returned (.tuple #[v,.int .i64 0])/\Ok .i32 21 w' w.heap.size v (Nm.cps cl cp (nf X))/\Bw w w'):=by
 have K:=O (I.2 xv X w (b0r) A t);have F:=I.1 X;have H:Hid (∀W Z,Bw w W->Sk .i32 W Z (nf X)->Calls prog 65 #[.pointer (some ⟨p,0,none⟩),Z] W (x0h W (Nm.cps cl cp (nf X)))):=fun W Z U g=>y5p (o.on U) g f6J;obtain⟨J,M,rfl,_,_⟩:=A.shape;clear o I A;generalize Nm.cps cl cp (nf X)=out at *;generalize nf X=Y at *;go_enter func34,ntmps34;go_wp2_with fail;refine(V K).mono ?_;rintro e Q ⟨b,rfl,G,b1⟩;have j:=O (V H Q b b1 G.sk);obtain⟨D,B,d,_,_⟩:=G.sk.shape;subst d;have x:=O b1;have f:=b1.size;clear K H G b1;go_wp2_with fail;refine(V j).mono ?_;rintro e u ⟨a,rfl,N,i⟩;obtain⟨l,y,C,_,_⟩:=N.sk.shape;subst C;have T:Hid (Ok .i32 21 u w.heap.size (.slice l out.length y) out/\Bw w u):=⟨N.lower f,bthen (V x) i⟩;clear j N i x;go_wp2;go_ret2;exact⟨_,rfl,V T⟩
theorem isN18{p cl cp nf}{w}(o:NmC p cl cp w)(E:NfdC p nf w){xv X}(A:Sk .i32 w xv X)(t:X.length<=65536):Calls prog 14 #[.pointer (some ⟨p,0,none⟩),xv] w (fun e w'=>e=.returned (.tuple #[.bool (decide (X=Nm.cps cl cp (nf X))),.int .i64 0])/\Bw w w'):=by
 have K:=O (q0m o E A t);have H:Hid (∀W Z,Bw w W->Sk .i32 W Z (Nm.cps cl cp (nf X))->Calls prog 35 #[xv,Z] W (x0g W (decide (X=Nm.cps cl cp (nf X))))):=fun W Z U g=>(y3V xv Z X _ W (A.below U) g).mono fun _ _ h=>⟨h.1,x0i h.2⟩;obtain⟨J,M,rfl,_,_⟩:=A.shape;clear o E A;generalize Nm.cps cl cp (nf X)=out at *;generalize decide (X=out)=N at *;go_enter func14,ntmps14;go_wp2_with fail;refine(V K).mono ?_;rintro e Q ⟨b,rfl,G,b1⟩;have j:=O (V H Q b b1 G.sk);obtain⟨D,B,d,_,_⟩:=G.sk.shape;subst d;have x:=O b1;clear K H G b1;go_wp2_with fail;refine c0m j fun u i=>?_;have T:=O (bthen (V x) i);clear j x i;go_wp2;go_ret2;exact⟨rfl,V T⟩
