/- Lemmas. -/
import Derived.Test.YtkfcabdmkmljjaaGreatDoorH33
import Derived.Deep.DeepCutAuto
import Derived.Deep.CutBlock
import Derived.Lib.MinMaxS
import Derived.Laws.MakeOwn
set_option maxHeartbeats 4000000
set_option maxRecDepth 8000
namespace Go.Proofs.YtkfcabdmkmljjaaGreatDoor
open Go.Proofs.Tryz
open Go.RowKit
section
variable{p:Prop}
theorem u9b(h:p:=by unfold LdAt at *;rw[x0c h];rfl):p:=h
theorem N4D(h:p:=by generalize s.1=out at *;go_enter func164,ntmps164;go_wp2_with(at_builtin;refine y3F rfl (.tmp 32) (.tmp 34) rfl B _ _ out [c] rfl rfl (x2d (V b) _) (y1c _ M7L c (V C)) (by first| omega|(simp;omega)) T7G ?_);intro Q a H K;obtain⟨i,g2⟩:=V t _ a (V Z) (V b) (V l) _ Q H K;have e1:=i.c0;have E:=i.fz 0;have U:=O g2;obtain⟨ab,A,P,_,_⟩:=H.sk.shape;subst P;rw[(M7L:(out++[c]).length=out.length+1)]at U;go_wp2;go_end0;exact V U):p:=h
theorem T7G(h:p:=by rw[x0y];exact f6J):p:=h
end
namespace Nm
variable {cl:Int->Int} {cp:Int->Int->Int×Bool}
def hgh(cl:Int->Int):List Int->Int
 | []=>-1
 | c::l=>max (cl c) (hgh cl l)
def blk(cl:Int->Int)(l:List Int)(k:Int):Bool:=l.any fun c=>decide (k<=cl c)
theorem z5W l{k}(G:0<=k):blk cl l k=decide (k<=hgh cl l):=by
 unfold blk
 induction l with
 | nil=>rw[hgh,d0f f6J];rfl
 | cons c l ih =>
  rw[List.any_cons,ih,hgh];by_cases Z:k<=cl c
  ·grind
  ·grind
theorem z3h l c:hgh cl (l++[c])=max (hgh cl l) (max (cl c) (-1)):=by
 induction l with
 | nil=>show max (cl c) (-1)=max (-1) (max (cl c) (-1));omega
 | cons d l ih=>rw[List.cons_append,hgh,ih,hgh];omega
theorem y9h l:-1<=hgh cl l:=by
 cases l with
 | nil=>exact Int.le_refl _
 | cons c l=>rw[hgh];have:=y9h l;omega
theorem z5a{M:Int}(B:∀c,cl c<=M)(R:-1<=M) l:hgh cl l<=M:=by
 induction l with
 | nil=>exact R
 | cons c l ih=>rw[hgh];have:=B c;omega
def bhd(s:List Int×Int):List Int:=s.1.drop (s.2+1).toNat
def fits(cl:Int->Int)(cp:Int->Int->Int×Bool)(s:List Int×Int)(c:Int):Bool:=decide (0<=s.2)&&(!(blk cl (bhd s) (cl c))&&(cp (s.1.getD s.2.toNat 0) c).2)
def stp(cl:Int->Int)(cp:Int->Int->Int×Bool)(s:List Int×Int)(c:Int):List Int×Int:=if fits cl cp s c=true then(s.1.set s.2.toNat (cp (s.1.getD s.2.toNat 0) c).1,s.2)else(s.1++[c],if cl c=0 then(s.1.length:Int)else s.2)
def run(cl:Int->Int)(cp:Int->Int->Int×Bool)(X:List Int):List Int×Int:=X.foldl (stp cl cp) ([],-1)
def cps(cl:Int->Int)(cp:Int->Int->Int×Bool)(X:List Int):List Int:=(run cl cp X).1
theorem y4J X c:run cl cp (X++[c])=stp cl cp (run cl cp X) c:=by
 unfold run;rw[List.foldl_append];rfl
theorem z4i{X:List Int}{k}(h:k<X.length):run cl cp (X.take (k+1))=stp cl cp (run cl cp (X.take k)) (X.getD k 0):=by
 rw[List.take_add_one,<- y4J];exact p8I
def In(s:List Int×Int):Prop:=-1<=s.2/\s.2<s.1.length
theorem q0S{s}(h:In s) c:In (stp cl cp s c)/\(stp cl cp s c).1.length<=s.1.length+1:=by
 unfold In at *;unfold stp;split
 ·exact f4R
 ·simp;exact G7n
theorem z5s X:In (run cl cp X)/\(run cl cp X).1.length<=X.length:=by
 obtain⟨M,rfl⟩:∃M:List Int,X=M.reverse:=⟨X.reverse,by rw[List.reverse_reverse]⟩
 induction M with
 | nil=>exact⟨⟨Int.le_refl _,(e8M:(-1:Int)<0)⟩,l0r _⟩
 | cons c l ih =>
  rw[List.reverse_cons,y4J];have h:=q0S (cl:=cl) (cp:=cp) ih.1 c;refine⟨h.1,?_⟩;rw[List.length_append];have:=h.2;have:=ih.2;simp only[List.length_cons,List.length_nil];omega
theorem hgh_fit s p:bhd (s.1.set s.2.toNat p,s.2)=bhd s\/s.2<0:=by
 by_cases R:s.2<0
 ·exact .inr R
 ·refine .inl ?_;unfold bhd;rw[List.drop_set_of_lt];omega
theorem z6S(s:List Int×Int) c:bhd (s.1++[c],(s.1.length:Int))=[]:=by
 unfold bhd;rw[List.drop_eq_nil_iff];simp
theorem z6R{s}(h:In s) c:bhd (s.1++[c],s.2)=bhd s++[c]:=by
 unfold bhd;obtain⟨Z,D⟩:=h;rw[List.drop_append_of_le_length];show(s.2+1).toNat<=s.1.length;omega
end Nm
def LdAt(w:World)(L:Nat)(v:Value)(st hi:Int):Prop:=w.heap[L]?=some (.cells #[v,.int .i64 st,.int .i64 hi] 197 (0,0))
section
variable {w:World} {L:Nat} {v:Value} {st hi:Int}
theorem LdAt.c0(h:LdAt w L v st hi):w.cell? ⟨L,0,none⟩=some v:=cell_of (j:=0) h T7b
theorem LdAt.c1(h:LdAt w L v st hi):w.cell? ⟨L,1,none⟩=some (.int .i64 st):=cell_of (j:=1) h f2O
theorem LdAt.c2(h:LdAt w L v st hi):w.cell? ⟨L,2,none⟩=some (.int .i64 hi):=cell_of (j:=2) h U4t
theorem LdAt.fz(h:LdAt w L v st hi) j:w.frozen? ⟨L,j,none⟩=false:=x0d h
theorem LdAt.lt(h:LdAt w L v st hi):L<w.heap.size:=x0a h.c0
theorem LdAt.below{w'}(h:LdAt w L v st hi)(Y:Bw w w'):LdAt w' L v st hi:=by
 unfold LdAt at *;rw[Y.block L (LdAt.lt h)];exact h
theorem LdAt.set0(h:LdAt w L v st hi) x:LdAt (w.setCell ⟨L,0,none⟩ x) L x st hi:=u9b
theorem LdAt.set1(h:LdAt w L v st hi) x:LdAt (w.setCell ⟨L,1,none⟩ (.int .i64 x)) L v x hi:=u9b
theorem LdAt.set2(h:LdAt w L v st hi) x:LdAt (w.setCell ⟨L,2,none⟩ (.int .i64 x)) L v st x:=u9b
theorem LdAt.apart(h:LdAt w L v st hi){B n u us}(X:w.ownsRow B 21 1 u n us):u.ownBlock≠some L:=by
 intro e;rcases X.2 with⟨rfl,_⟩ | ⟨g,M,Q,rfl,_,C,_⟩
 ·cases e
 ·simp[Value.ownBlock]at e;subst e;unfold LdAt at h;rw[C]at h;simp at h
theorem LdAt.grown{w'}(h:LdAt w L v st hi){B n u us}(X:w.ownsRow B 21 1 u n us)(C:w.grownBy w' u.ownBlock):LdAt w' L v st hi:=by
 have g:=h.apart X;unfold LdAt at *;rw[C.block L (LdAt.lt h) (fun e=>g e.symm)];exact h
theorem LdAt.ok{j B x u zs}(h:LdAt w L v st hi)(X:Ok .i32 21 w B u zs):Ok .i32 21 (w.setCell ⟨L,j,none⟩ x) B u zs:=by
 refine⟨X.1,X.2.1,x0w X.2.2 fun g C=>?_⟩;exact x0e _ (fun e=>h.apart X.2.2 (by rw[<- e];exact C))
end
theorem z2o{w L v st hi}(h:LdAt w L v st hi) k:Calls prog 162 #[.pointer (some ⟨L,0,none⟩),.int .i64 k] w (fun e w'=>e=.returned (.bool (decide (k<=hi)))/\w'=w):=by
 have q:=h.c2;go_enter func162,ntmps162;exact t6u
def LdS(cl:Int->Int)(w:World)(B L:Nat)(s:List Int×Int):Prop:=∃v,LdAt w L v s.2 (Nm.hgh cl (Nm.bhd s))/\Ok .i32 21 w B v s.1/\B<=L
def LayB(cl:Int->Int)(B L:Nat)(w:World)(s:List Int×Int)(e:Ending)(w':World):Prop:=e=.returned (.tuple #[])/\LdS cl w' B L s/\Below B w w'
theorem y1c(w:World){n}(F:n=w.heap.size) c(h:Rune c):Sk .i32 (w.alloc (.cells #[.int .i32 c] 21)) (.slice (some ⟨n,0,none⟩) 1 1) [c]:=by
 subst F;exact lit15 w [c] 1 rfl f6J f6J _ rfl (fun z T=>(by simpa using T:z=c) ▸ h)
theorem lay18{cl}(F:∀c,0<=cl c/\cl c<=254){w B L s}(ae:Nm.In s)(hS:LdS cl w B L s) c(I:Rune c)(S:s.1.length<=10000000):Calls prog 164 #[.pointer (some ⟨L,0,none⟩),.int .i32 c,.int .i64 (cl c)] w (LayB cl B L w (s.1++[c],if cl c=0 then(s.1.length:Int)else s.2)):=by
 obtain⟨v,Y,T,G⟩:=hS;have p:=Y.lt;obtain⟨ao,M,hv,d,X⟩:=T.sk.shape;subst hv;have c0:=Y.c0;have c1:=Y.c1;have q:=Y.c2;have f0:=Y.fz 0;have f1:=Y.fz 1;have f2:=Y.fz 2;have C:=O I;have hk:=F c;have n:=Nm.y9h (cl:=cl) (Nm.bhd s);have z:=Nm.z5a (cl:=cl) (fun c=>(F c).2) f6J (Nm.bhd s);by_cases hz:cl c=0
 ·rw[if_pos hz,hz];have Z:=O ((Y.set1 (s.1.length:Int)).set2 (-1));have u:=(Y.set1 (s.1.length:Int)).c2;have g:=(Y.set1 (s.1.length:Int)).fz 2;have d3:=(V Z).c0;have b:=O ((Y.set1 (s.1.length:Int)).ok (j:=2) (x:=.int .i64 (-1)) (Y.ok (j:=1) (x:=.int .i64 (s.1.length:Int)) T));have l:Hid (Below B w ((w.setCell ⟨L,1,none⟩ (.int .i64 (s.1.length:Int))).setCell ⟨L,2,none⟩ (.int .i64 (-1)))):=x0b (x0b (Below.refl B w) G _) G _
  have t:Hid (∀W N,LdAt W L (.slice ao s.1.length M) (s.1.length:Int) (-1)->Ok .i32 21 W B (.slice ao s.1.length M) s.1->Below B w W->∀o Q,Ok .i32 21 N B Q (s.1++[c])->(W.alloc o).grownBy N (Value.slice ao s.1.length M).ownBlock->LdAt N L (.slice ao s.1.length M) (s.1.length:Int) (-1)/\LayB cl B L w (s.1++[c],(s.1.length:Int)) (.returned (.tuple #[])) (N.setCell ⟨L,0,none⟩ Q)):=fun W N h1 D J o Q H K=>by
   have y:=(h1.below ((Below.refl W.heap.size W).alloc (l0r _) o)).grown (x2d D o).2.2 K;have f:=J.size;refine⟨y,rfl,⟨Q,?_,y.ok H,G⟩,x0b ((J.alloc f6J o).grown K T7G (fun k hk=>(D.2.2.lt k hk).1)) G _⟩;show LdAt _ L Q (s.1.length:Int) (Nm.hgh cl (Nm.bhd (s.1++[c],(s.1.length:Int))));rw[Nm.z6S];exact y.set0 Q
  have f:=(V l).size;have m:B<=w.heap.size:=f6J;exact N4D
 ·rw[if_neg hz];have Z:=O (Y.set2 (max (Nm.hgh cl (Nm.bhd s)) (cl c)));have d3:=(V Z).c0;have b:=O (Y.ok (j:=2) (x:=.int .i64 (max (Nm.hgh cl (Nm.bhd s)) (cl c))) T);have l:Hid (Below B w (w.setCell ⟨L,2,none⟩ (.int .i64 (max (Nm.hgh cl (Nm.bhd s)) (cl c))))):=x0b (Below.refl B w) G _
  have t:Hid (∀W N,LdAt W L (.slice ao s.1.length M) s.2 (max (Nm.hgh cl (Nm.bhd s)) (cl c))->Ok .i32 21 W B (.slice ao s.1.length M) s.1->Below B w W->∀o Q,Ok .i32 21 N B Q (s.1++[c])->(W.alloc o).grownBy N (Value.slice ao s.1.length M).ownBlock->LdAt N L (.slice ao s.1.length M) s.2 (max (Nm.hgh cl (Nm.bhd s)) (cl c))/\LayB cl B L w (s.1++[c],s.2) (.returned (.tuple #[])) (N.setCell ⟨L,0,none⟩ Q)):=fun W N h1 D J o Q H K=>by
   have y:=(h1.below ((Below.refl W.heap.size W).alloc (l0r _) o)).grown (x2d D o).2.2 K;have f:=J.size;refine⟨y,rfl,⟨Q,?_,y.ok H,G⟩,x0b ((J.alloc f6J o).grown K T7G (fun k hk=>(D.2.2.lt k hk).1)) G _⟩;show LdAt _ L Q s.2 (Nm.hgh cl (Nm.bhd (s.1++[c],s.2)));rw[Nm.z6R ae,Nm.z3h,(f6J:max (Nm.hgh cl (Nm.bhd s)) (max (cl c) (-1))=max (Nm.hgh cl (Nm.bhd s)) (cl c))];exact y.set0 Q
  have f:=(V l).size;have m:B<=w.heap.size:=f6J;have R:(cl c==0)=false:=(by grind);exact N4D
theorem Ok.setAt18{K e w B g n cap}{zs}(h:Ok K e w B (.slice (some ⟨g,0,none⟩) n cap) zs) k z(T:Fit K [z]) :
  Ok K e (w.setCell ⟨g,k,none⟩ (.int K z)) B (.slice (some ⟨g,0,none⟩) n cap) (zs.set k z)/\w.frozen? ⟨g,k,none⟩=false:=by
 have J:=h.row;rcases J.2 with⟨R,_⟩ | ⟨S,A,Q,N,Y,H,F,G,f,U⟩
 ·cases R
 ·exact u4b
theorem LdS.below{cl w w' B L s}(h:LdS cl w B L s)(Y:Bw w w'):LdS cl w' B L s:=by
 obtain⟨v,Z,D,J⟩:=h;exact⟨v,Z.below Y,D.below Y,J⟩
structure NmC(p:Nat)(cl:Int->Int)(cp:Int->Int->Int×Bool)(w0:World):Prop where
 cr:∀c,0<=cl c/\cl c<=254
 pr:∀a b,Rune a->Rune b->Rune (cp a b).1
 c:∀c,Rune c->∀W,Below w0.heap.size w0 W->Calls prog 161 #[.pointer (some ⟨p,0,none⟩),.int .i32 c] W (IntB W (cl c))
 k:∀a b,Rune a->Rune b->∀W,Below w0.heap.size w0 W->Calls prog 163 #[.pointer (some ⟨p,0,none⟩),.int .i32 a,.int .i32 b] W (fun e w'=>e=.returned (.tuple #[.int .i32 (cp a b).1,.bool (cp a b).2])/\w'=W)
theorem q1e{p cl cp w0}(r:NmC p cl cp w0){w L s}(Y:Bw w0 w)(o:Nm.In s)(hS:LdS cl w w0.heap.size L s) c(I:Rune c)(hl:s.1.length<=10000000):Calls prog 113 #[.pointer (some ⟨L,0,none⟩),.pointer (some ⟨p,0,none⟩),.int .i32 c] w (LayB cl w0.heap.size L w (Nm.stp cl cp s c)):=by
 have b:=O (r.c c I w Y);have aj:=r.cr c;have B:=Y.size;have KL:Hid (∀W,Bw w W->Calls prog 164 #[.pointer (some ⟨L,0,none⟩),.int .i32 c,.int .i64 (cl c)] W (LayB cl w0.heap.size L w (s.1++[c],if cl c=0 then(s.1.length:Int)else s.2))):=fun W R=>(lay18 r.cr o (hS.below R) c I hl).mono fun e w' h=>⟨h.1,h.2.1,(R.mono B).trans h.2.2⟩;have aw:=Nm.y9h (cl:=cl) (Nm.bhd s);have az:=Nm.z5a (cl:=cl) (fun c=>(r.cr c).2) f6J (Nm.bhd s);have aA:=o.1;have aB:=o.2;by_cases h0:s.2<0
 ·have aq:s.2=-1:=by omega
  have A:Nm.stp cl cp s c=(s.1++[c],if cl c=0 then(s.1.length:Int)else s.2):=by
   unfold Nm.stp Nm.fits;rw[d0f f6J];rfl
  have ab:Hid (∀W,Bw w W->W.cell? ⟨L,1,none⟩=some (.int .i64 (-1))):=fun W R=>by
   obtain⟨v,Z,_,_⟩:=hS.below R;rw[<- aq];exact Z.c1
  rw[A];generalize(s.1++[c],if cl c=0 then(s.1.length:Int)else s.2)=s2 at *;go_enter func113,ntmps113;go_wp2_with fail;refine c0m b fun Q b1=>?_;have S:=V ab Q b1;have j:=O (V KL Q b1);go_wp2_with fail;refine(V j).mono ?_;rintro e t h2;obtain⟨rfl,h2⟩:=h2;have U:=O h2;go_wp2;go_end0;exact⟨rfl,V U⟩
 ·obtain⟨st,A⟩:∃st:Nat,s.2=(st:Int):=⟨s.2.toNat,f6J⟩;have K:st<s.1.length:=f6J;have C:s.2.toNat=st:=f6J;obtain⟨v0,H,f,ag⟩:=hS;obtain⟨g,M,hv,X,ar⟩:=z0q f.row f6J;subst hv;have ai:w0.heap.size<=g:=(f.2.2.lt g V3P).1;have HA:Hid (∀W,Bw w W->LdAt W L (.slice (some ⟨g,0,none⟩) s.1.length M) (st:Int) (Nm.hgh cl (Nm.bhd s))/\Ok .i32 21 W w0.heap.size (.slice (some ⟨g,0,none⟩) s.1.length M) s.1):=fun W R=>⟨A ▸ H.below R,f.below R⟩;have E:Rune (s.1.getD st 0):=x0R f.sk K
  have u:Hid (∀W,Bw w W->W.cell? ⟨g,st,none⟩=some (.int .i32 (s.1.getD st 0))):=fun W R=>by
   obtain⟨b3,o3,q3,N,_,_,J⟩:=(f.below R).sk.place f6J;simp only[Value.slice.injEq,Option.some.injEq,Addr.mk.injEq]at N;obtain⟨⟨rfl,rfl,_⟩,_,_⟩:=N;have h4:=J st K;rwa [Nat.zero_add]at h4
  have KK:Hid (∀W,Bw w W->Calls prog 163 #[.pointer (some ⟨p,0,none⟩),.int .i32 (s.1.getD st 0),.int .i32 c] W (fun e w'=>e=.returned (.tuple #[.int .i32 (cp (s.1.getD st 0) c).1,.bool (cp (s.1.getD st 0) c).2])/\w'=W)):=fun W R=>r.k _ _ E I W (bthen Y R);have x:=O (r.pr _ _ E I)
  have ae:Hid ((Nm.blk cl (Nm.bhd s) (cl c)=true\/(cp (s.1.getD st 0) c).2=false)->Nm.stp cl cp s c=(s.1++[c],if cl c=0 then(s.1.length:Int)else s.2)):=fun h=>by
   unfold Nm.stp Nm.fits;rw[C];rcases h with h | h<;>rw[h]<;>simp
  have D:Hid (Nm.blk cl (Nm.bhd s) (cl c)=false->(cp (s.1.getD st 0) c).2=true->Nm.stp cl cp s c=(s.1.set st (cp (s.1.getD st 0) c).1,s.2)):=fun Z h2=>by
   unfold Nm.stp Nm.fits;rw[C,Z,h2,d0t f6J];rfl
  have F:Hid (∀q,Nm.bhd (s.1.set st q,s.2)=Nm.bhd s):=fun q=>by
   rcases Nm.hgh_fit s q with h | h
   ·rw[C]at h;exact h
   ·omega
  have G:=O (Nm.z5W (cl:=cl) (Nm.bhd s) aj.1)
  have KB:Hid (∀W,Bw w W->Calls prog 162 #[.pointer (some ⟨L,0,none⟩),.int .i64 (cl c)] W (fun e w'=>e=.returned (.bool (Nm.blk cl (Nm.bhd s) (cl c)))/\w'=W)):=fun W R=>by
   have:=z2o (V HA W R).1 (cl c);rw[<- V G]at this;exact this
  have af:Hid (∀q W,Rune q->Bw w W->W.frozen? ⟨g,st,none⟩=false/\LayB cl w0.heap.size L w (s.1.set st q,s.2) (.returned (.tuple #[])) (W.setCell ⟨g,st,none⟩ (.int .i32 q))):=fun q W y R=>by
   obtain⟨d,P⟩:=V HA W R;obtain⟨o1,f1⟩:=P.setAt18 st q (fun z hz=>by rw[List.mem_singleton]at hz;rw[hz];exact x1j y);refine⟨f1,rfl,⟨.slice (some ⟨g,0,none⟩) s.1.length M,?_,o1,ag⟩,x0b (R.mono B) ai _⟩;show LdAt _ L _ s.2 (Nm.hgh cl (Nm.bhd (s.1.set st q,s.2)));rw[V F q,A];have am:L≠g:=fun e=>d.apart P.2.2 (by rw[e];rfl);unfold LdAt;rw[x0e _ am];exact d
  generalize Nm.blk cl (Nm.bhd s) (cl c)=bk,(s.1++[c],if cl c=0 then(s.1.length:Int)else s.2)=s2 at *;have ab:Hid (∀W,Bw w W->W.cell? ⟨L,1,none⟩=some (.int .i64 (st:Int))/\W.cell? ⟨L,0,none⟩=some (.slice (some ⟨g,0,none⟩) s.1.length M)):=fun W R=>⟨(V HA W R).1.c1,(V HA W R).1.c0⟩;generalize cl c=k at *
  cases bk with
  | true =>
   rw[V ae (.inl rfl)];go_enter func113,ntmps113;go_wp2_with fail;refine c0m b fun Q b1=>?_;obtain⟨S,x0⟩:=V ab Q b1;have i:=O (V KB Q b1);have j:=O (V KL Q b1);go_wp2_with fail;refine(V i).mono ?_;rintro e t ⟨rfl,rfl⟩;go_wp2_with fail;refine(V j).mono ?_;rintro e w3 J;obtain⟨rfl,J⟩:=J;have U:=O J;go_wp2;go_end0;exact⟨rfl,V U⟩
  | false =>
   go_enter func113,ntmps113;go_wp2_with fail;refine c0m b fun Q b1=>?_;obtain⟨S,x0⟩:=V ab Q b1;have x3:=V u Q b1;have i:=O (V KB Q b1);have j:Hid (∀m:Nat,Calls prog 164 #[.pointer (some ⟨L,0,none⟩),.int .i32 c,.int .i64 k] (Q.drewN m) (LayB cl w0.heap.size L w s2)):=fun m=>V KL _ (bthen b1 (x0i ⟨m,rfl⟩));have K3:=fun m:Nat=>O (V KK (Q.drewN m) (bthen b1 (x0i ⟨m,rfl⟩)));have l:Hid (∀W,Bw Q W->W.frozen? ⟨g,st,none⟩=false/\LayB cl w0.heap.size L w (s.1.set st (cp (s.1.getD st 0) c).1,s.2) (.returned (.tuple #[])) (W.setCell ⟨g,st,none⟩ (.int .i32 (cp (s.1.getD st 0) c).1))):=fun W R=>V af _ W (V x) (bthen b1 R);generalize(s.1.set st (cp (s.1.getD st 0) c).1,s.2)=s3 at *;generalize(cp (s.1.getD st 0) c).1=q at *;generalize(cp (s.1.getD st 0) c).2=ok at *;generalize s.1.getD st 0=a at *;generalize Nm.stp cl cp s c=s4,s.1.length=n at *;go_wp2_with fail;refine(V i).mono ?_;rintro e t ⟨rfl,rfl⟩
   cases ok with
   | false =>
    obtain rfl:s4=s2:=V ae M7L;go_wp2;go_quiet(first| (go_at_call 163;exact Calls.quiet_of_same (V (K3 _))));go_wp2_with fail;refine(V j _).mono ?_;rintro e w3 J;obtain⟨rfl,J⟩:=J;have U:=O J;go_wp2;go_end0;exact t8u
   | true =>
    obtain rfl:s4=s3:=V D M7L M7L;go_wp2;go_quiet(first| (go_at_call 163;exact Calls.quiet_of_same (V (K3 _))));go_wp2;have f3:=(V l t (b0r)).1;have T:Hid (∀m:Nat,LayB cl w0.heap.size L w s4 (.returned (.tuple #[])) ((t.drewN m).setCell ⟨g,st,none⟩ (.int .i32 q))):=fun m=>(V l _ (x0i ⟨m,rfl⟩)).2;go_region;go_wp2;go_end0;exact V T _
namespace Nm
variable {cl:Int->Int} {cp:Int->Int->Int×Bool}
end Nm
theorem q0b(n:Nat) w B(m:B<=w.heap.size)(F:n<=3000000):∃W,(Instr.makeSlice 36 (.int .i64 0) (.int .i64 (n:Int))).run prog w=.ok (.slice (some ⟨w.heap.size,0,none⟩) 0 n) W/\Ok .i32 21 W B (.slice (some ⟨w.heap.size,0,none⟩) 0 n) []/\w.grownBy W none:=by
 obtain⟨r,hi,d,Y,R⟩:=info_parts y2H;exact W9C
theorem y5u{p cl cp w}(r:NmC p cl cp w){xv X}(A:Sk .i32 w xv X)(z:X.length<=3000000):Calls prog 65 #[.pointer (some ⟨p,0,none⟩),xv] w (x0h w (Nm.cps cl cp X)):=by
 have C:Hid (∀(k:Nat),k<X.length->∃b P M,xv=.slice (some ⟨b,P,none⟩) X.length M/\∀W,Bw w W->W.cell? ⟨b,P+k,none⟩=some (.int .i32 (X.getD k 0))):=fun k G=>by
  obtain⟨b,P,M,q,_,_,hc⟩:=A.place f6J;exact⟨b,P,M,q,fun W R=>P0P⟩
 have l:Hid (∀k L wr,k<X.length->Bw w wr->LdS cl wr w.heap.size L (Nm.run cl cp (X.take k))->Calls prog 113 #[.pointer (some ⟨L,0,none⟩),.pointer (some ⟨p,0,none⟩),.int .i32 (X.getD k 0)] wr (LayB cl w.heap.size L wr (Nm.run cl cp (X.take (k+1))))):=fun k L wr G hb hS=>by
  rw[Nm.z4i G];have hi:=Nm.z5s (cl:=cl) (cp:=cp) (X.take k);have:=hi.2;rw[List.length_take]at this;exact q1e r hb hi.1 hS _ (x0R A G) f6J
 obtain⟨W0,s,F,m⟩:=q0b X.length w w.heap.size (l0r _) z;have f:Bw w W0:=(b0r).grown m (l0r _) (fun k G=>g6B);have T:=f.size
 have g:Hid (LdS cl (W0.alloc (.cells #[.slice (some ⟨w.heap.size,0,none⟩) 0 X.length,.int .i64 (-1),.int .i64 (-1)] 197)) w.heap.size W0.heap.size (Nm.run cl cp (X.take 0))):=by
  refine⟨.slice (some ⟨w.heap.size,0,none⟩) 0 X.length,?_,x2d F _,T⟩;show(W0.heap.push _)[W0.heap.size]?=_;rw[List.take_zero];simp;exact⟨rfl,rfl⟩
 have ab:Hid (Bw w (W0.alloc (.cells #[.slice (some ⟨w.heap.size,0,none⟩) 0 X.length,.int .i64 (-1),.int .i64 (-1)] 197))):=f.alloc T _
 have t:Hid (∀L wr,LdS cl wr w.heap.size L (Nm.run cl cp (X.take X.length))->Bw w wr->∃v,wr.cell? ⟨L,0,none⟩=some v/\(∃B n M,v=.slice B n M)/\x0h w (Nm.cps cl cp X) (.returned v) wr):=fun L wr h hb=>by
  rw[List.take_length]at h;obtain⟨v,Z,D,_⟩:=h;obtain⟨B,M,e,_,_⟩:=D.sk.shape;exact⟨v,Z.c0,⟨B,_,M,e⟩,v,rfl,D,hb⟩
 obtain⟨B,M,rfl,_,_⟩:=A.shape;clear r A F m f;generalize Nm.cps cl cp X=out at *;go_enter func65,ntmps65;go_wp2;generalize hLe:W0.heap.size=L at *;clear hLe;go_loopw[7,14] (fun _ iv wr=>∃k:Nat,iv=.int .i64 k/\k<=X.length/\LdS cl wr w.heap.size L (Nm.run cl cp (X.take k))/\Bw w wr) (fun _ iv _=>X.length-(intOf iv).toNat)
 case atStart=>exact⟨0,rfl,f6J,V g,V ab⟩
 case round =>
  obtain⟨k,rfl,G,hS,J⟩:=hrel;clear g ab s;by_cases E:k<X.length
  ·have i:(k:Int)<X.length:=f6J;obtain⟨b,P,d,q,N⟩:=V C k E;simp only[Value.slice.injEq]at q;obtain⟨rfl,-,rfl⟩:=q;have j:=N wr J;have K:=O (V l k L wr E J hS);have Y:=O J;have I:Hid (∀W,LdS cl W w.heap.size L (Nm.run cl cp (X.take (k+1)))->Bw w W->∃n:Nat,Value.int .i64 ((k:Int)+1)=.int .i64 (n:Int)/\n<=X.length/\LdS cl W w.heap.size L (Nm.run cl cp (X.take n))/\Bw w W):=fun W Z D=>⟨k+1,g2A,f6J,Z,D⟩;clear hS N J C l t;generalize Nm.run cl cp (X.take (k+1))=s2,X.getD k 0=c at *;go_wp2_with fail;refine(V K).mono ?_;rintro e Q ⟨rfl,Z,D⟩;have U:=O (V I Q Z ((V Y).trans D));clear K Y I Z D j;go_wp2
   go_roundw
   case rel=>exact V U
   case measure=>exact g7T
  ·have x:k=X.length:=f6J;subst x;obtain⟨v,S,⟨o,a,H,rfl⟩,y⟩:=V t L wr hS J;have U:=O y;clear hS J C l t y;exact s1h
def NfdC(p:Nat)(nf:List Int->List Int)(w0:World):Prop:=(∀X,(nf X).length<=32*X.length)/\∀xv X W,Below w0.heap.size w0 W->Sk .i32 W xv X->X.length<=65536->Calls prog 64 #[.pointer (some ⟨p,0,none⟩),xv] W (fun e w'=>∃v,e=.returned (.tuple #[v,.int .i64 0])/\Ok .i32 21 w' W.heap.size v (nf X)/\Below W.heap.size W w')
theorem NmC.on{p cl cp w W}(h:NmC p cl cp w)(Y:Bw w W):NmC p cl cp W:=⟨h.cr,h.pr,fun c I N R=>h.c c I N (bthen Y R),fun a b g K N R=>h.k a b g K N (bthen Y R)⟩
theorem q0i{p cl cp nf}{w}(r:NmC p cl cp w)(y:NfdC p nf w){xv X}(A:Sk .i32 w xv X)(z:X.length<=65536):Calls prog 34 #[.pointer (some ⟨p,0,none⟩),xv] w (fun e w'=>∃v,e=.returned (.tuple #[v,.int .i64 0])/\Ok .i32 21 w' w.heap.size v (Nm.cps cl cp (nf X))/\Bw w w'):=by
 have K:=O (y.2 xv X w (b0r) A z);have G:=y.1 X;have b:Hid (∀W k,Bw w W->Sk .i32 W k (nf X)->Calls prog 65 #[.pointer (some ⟨p,0,none⟩),k] W (x0h W (Nm.cps cl cp (nf X)))):=fun W k R hy=>y5u (r.on R) hy f6J;obtain⟨B,M,rfl,_,_⟩:=A.shape;clear r y A;generalize Nm.cps cl cp (nf X)=out at *;generalize nf X=Y at *;go_enter func34,ntmps34;go_wp2_with fail;refine(V K).mono ?_;rintro e Q ⟨a,rfl,E,b1⟩;have j:=O (V b Q a b1 E.sk);obtain⟨D,C,d,_,_⟩:=E.sk.shape;subst d;have x:=O b1;have f:=b1.size;clear K b E b1;go_wp2_with fail;refine(V j).mono ?_;rintro e t ⟨N,rfl,F,u⟩;obtain⟨o,H,J,_,_⟩:=F.sk.shape;subst J;have U:Hid (Ok .i32 21 t w.heap.size (.slice o out.length H) out/\Bw w t):=⟨F.lower f,bthen (V x) u⟩;clear j F u x;go_wp2;go_ret2;exact⟨_,rfl,V U⟩
theorem isN18{p cl cp nf}{w}(r:NmC p cl cp w)(y:NfdC p nf w){xv X}(A:Sk .i32 w xv X)(z:X.length<=65536):Calls prog 14 #[.pointer (some ⟨p,0,none⟩),xv] w (fun e w'=>e=.returned (.tuple #[.bool (decide (X=Nm.cps cl cp (nf X))),.int .i64 0])/\Bw w w'):=by
 have K:=O (q0i r y A z);have Y:Hid (∀W k,Bw w W->Sk .i32 W k (Nm.cps cl cp (nf X))->Calls prog 35 #[xv,k] W (x0g W (decide (X=Nm.cps cl cp (nf X))))):=fun W k R hy=>(y3W xv k X _ W (A.below R) hy).mono fun _ _ h=>⟨h.1,x0i h.2⟩;obtain⟨B,M,rfl,_,_⟩:=A.shape;clear r y A;generalize Nm.cps cl cp (nf X)=out at *;generalize decide (X=out)=l at *;go_enter func14,ntmps14;go_wp2_with fail;refine(V K).mono ?_;rintro e Q ⟨a,rfl,E,b1⟩;have j:=O (V Y Q a b1 E.sk);obtain⟨D,C,d,_,_⟩:=E.sk.shape;subst d;have x:=O b1;clear K Y E b1;go_wp2_with fail;refine c0m j fun t u=>?_;have U:=O (bthen (V x) u);clear j x u;go_wp2;go_ret2;exact⟨rfl,V U⟩
