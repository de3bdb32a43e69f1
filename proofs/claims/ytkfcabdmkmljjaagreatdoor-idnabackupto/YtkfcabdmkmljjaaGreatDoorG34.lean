/- Lemmas. -/
import Derived.Test.YtkfcabdmkmljjaaGreatDoorG33
import Derived.Deep.DeepCutAuto
import Derived.Deep.CutBlock
import Derived.Lib.MinMaxS
import Derived.Laws.MakeOwn
set_option maxHeartbeats 4000000
set_option maxRecDepth 8000
namespace Go.Proofs.YtkfcabdmkmljjaaGreatDoor
open Go.Proofs.Tryz
open Go.RowKit
section
variable{p:Prop}
theorem u9b(h:p:=by unfold LdAt at *;rw[x0c h];rfl):p:=h
theorem v8O(h:p:=by generalize s.1=out at *;go_enter func164,ntmps164;go_wp2_with(at_builtin;refine y3R rfl (.tmp 32) (.tmp 34) rfl B _ _ out [c] rfl rfl (x2g (V P) _) (y1o _ M7L c (V C)) (by first| omega|(simp;omega)) T7G ?_);intro Q w' H K;obtain⟨g1,A⟩:=V z _ w' (V Z) (V P) (V ab) _ Q H K;have e1:=g1.c0;have E:=g1.fz 0;have U:=O A;obtain⟨ae,t,i,_,_⟩:=H.sk.shape;subst i;rw[(M7L:(out++[c]).length=out.length+1)]at U;go_wp2;go_end0;exact V U):p:=h
theorem T7G(h:p:=by rw[x0y];exact f6J):p:=h
end
namespace Nm
variable {cl:Int->Int} {cp:Int->Int->Int×Bool}
def hgh(cl:Int->Int):List Int->Int
 | []=>-1
 | c::l=>max (cl c) (hgh cl l)
def blk(cl:Int->Int)(l:List Int)(k:Int):Bool:=l.any fun c=>decide (k<=cl c)
theorem z6m l{k}(G:0<=k):blk cl l k=decide (k<=hgh cl l):=by
 unfold blk
 induction l with
 | nil=>rw[hgh,d0f f6J];rfl
 | cons c l ih =>
  rw[List.any_cons,ih,hgh];by_cases Z:k<=cl c
  ·grind
  ·grind
theorem z3u l c:hgh cl (l++[c])=max (hgh cl l) (max (cl c) (-1)):=by
 induction l with
 | nil=>show max (cl c) (-1)=max (-1) (max (cl c) (-1));omega
 | cons d l ih=>rw[List.cons_append,hgh,ih,hgh];omega
theorem y9s l:-1<=hgh cl l:=by
 cases l with
 | nil=>exact Int.le_refl _
 | cons c l=>rw[hgh];have:=y9s l;omega
theorem z5p{M:Int}(I:∀c,cl c<=M)(R:-1<=M) l:hgh cl l<=M:=by
 induction l with
 | nil=>exact R
 | cons c l ih=>rw[hgh];have:=I c;omega
def bhd(s:List Int×Int):List Int:=s.1.drop (s.2+1).toNat
def fits(cl:Int->Int)(cp:Int->Int->Int×Bool)(s:List Int×Int)(c:Int):Bool:=decide (0<=s.2)&&(!(blk cl (bhd s) (cl c))&&(cp (s.1.getD s.2.toNat 0) c).2)
def stp(cl:Int->Int)(cp:Int->Int->Int×Bool)(s:List Int×Int)(c:Int):List Int×Int:=if fits cl cp s c=true then(s.1.set s.2.toNat (cp (s.1.getD s.2.toNat 0) c).1,s.2)else(s.1++[c],if cl c=0 then(s.1.length:Int)else s.2)
def run(cl:Int->Int)(cp:Int->Int->Int×Bool)(X:List Int):List Int×Int:=X.foldl (stp cl cp) ([],-1)
def cps(cl:Int->Int)(cp:Int->Int->Int×Bool)(X:List Int):List Int:=(run cl cp X).1
theorem x3h X c:run cl cp (X++[c])=stp cl cp (run cl cp X) c:=by
 unfold run;rw[List.foldl_append];rfl
theorem z4x{X:List Int}{k}(h:k<X.length):run cl cp (X.take (k+1))=stp cl cp (run cl cp (X.take k)) (X.getD k 0):=by
 rw[List.take_add_one,<- x3h];exact p8I
def In(s:List Int×Int):Prop:=-1<=s.2/\s.2<s.1.length
theorem q1l{s}(h:In s) c:In (stp cl cp s c)/\(stp cl cp s c).1.length<=s.1.length+1:=by
 unfold In at *;unfold stp;split
 ·exact f4R
 ·simp;exact G7n
theorem z1i X:In (run cl cp X)/\(run cl cp X).1.length<=X.length:=by
 obtain⟨M,rfl⟩:∃M:List Int,X=M.reverse:=⟨X.reverse,by rw[List.reverse_reverse]⟩
 induction M with
 | nil=>exact⟨⟨Int.le_refl _,(e8M:(-1:Int)<0)⟩,l0r _⟩
 | cons c l ih =>
  rw[List.reverse_cons,x3h];have h:=q1l (cl:=cl) (cp:=cp) ih.1 c;refine⟨h.1,?_⟩;rw[List.length_append];have:=h.2;have:=ih.2;simp only[List.length_cons,List.length_nil];omega
theorem hgh_fit s p:bhd (s.1.set s.2.toNat p,s.2)=bhd s\/s.2<0:=by
 by_cases R:s.2<0
 ·exact .inr R
 ·refine .inl ?_;unfold bhd;rw[List.drop_set_of_lt];omega
theorem z7k(s:List Int×Int) c:bhd (s.1++[c],(s.1.length:Int))=[]:=by
 unfold bhd;rw[List.drop_eq_nil_iff];simp
theorem z7j{s}(h:In s) c:bhd (s.1++[c],s.2)=bhd s++[c]:=by
 unfold bhd;obtain⟨Z,D⟩:=h;rw[List.drop_append_of_le_length];show(s.2+1).toNat<=s.1.length;omega
end Nm
def LdAt(w:World)(L:Nat)(v:Value)(st hi:Int):Prop:=w.heap[L]?=some (.cells #[v,.int .i64 st,.int .i64 hi] 197 (0,0))
section
variable {w:World} {L:Nat} {v:Value} {st hi:Int}
theorem LdAt.c0(h:LdAt w L v st hi):w.cell? ⟨L,0,none⟩=some v:=cell_of (j:=0) h T7b
theorem LdAt.c1(h:LdAt w L v st hi):w.cell? ⟨L,1,none⟩=some (.int .i64 st):=cell_of (j:=1) h f2O
theorem LdAt.c2(h:LdAt w L v st hi):w.cell? ⟨L,2,none⟩=some (.int .i64 hi):=cell_of (j:=2) h U4t
theorem LdAt.fz(h:LdAt w L v st hi) j:w.frozen? ⟨L,j,none⟩=false:=x0d h
theorem LdAt.lt(h:LdAt w L v st hi):L<w.heap.size:=x0a h.c0
theorem LdAt.below{w'}(h:LdAt w L v st hi)(Y:Bw w w'):LdAt w' L v st hi:=by
 unfold LdAt at *;rw[Y.block L (LdAt.lt h)];exact h
theorem LdAt.set0(h:LdAt w L v st hi) x:LdAt (w.setCell ⟨L,0,none⟩ x) L x st hi:=u9b
theorem LdAt.set1(h:LdAt w L v st hi) x:LdAt (w.setCell ⟨L,1,none⟩ (.int .i64 x)) L v x hi:=u9b
theorem LdAt.set2(h:LdAt w L v st hi) x:LdAt (w.setCell ⟨L,2,none⟩ (.int .i64 x)) L v st x:=u9b
theorem LdAt.apart(h:LdAt w L v st hi){B n u us}(j:w.ownsRow B 21 1 u n us):u.ownBlock≠some L:=by
 intro e;rcases j.2 with⟨rfl,_⟩ | ⟨g,M,P,rfl,_,C,_⟩
 ·cases e
 ·simp[Value.ownBlock]at e;subst e;unfold LdAt at h;rw[C]at h;simp at h
theorem LdAt.grown{w'}(h:LdAt w L v st hi){B n u us}(j:w.ownsRow B 21 1 u n us)(C:w.grownBy w' u.ownBlock):LdAt w' L v st hi:=by
 have d:=h.apart j;unfold LdAt at *;rw[C.block L (LdAt.lt h) (fun e=>d e.symm)];exact h
theorem LdAt.ok{j B x u zs}(h:LdAt w L v st hi)(A:Ok .i32 21 w B u zs):Ok .i32 21 (w.setCell ⟨L,j,none⟩ x) B u zs:=by
 refine⟨A.1,A.2.1,x0w A.2.2 fun g C=>?_⟩;exact x0e _ (fun e=>h.apart A.2.2 (by rw[<- e];exact C))
end
theorem z2A{w L v st hi}(h:LdAt w L v st hi) k:Calls prog 162 #[.pointer (some ⟨L,0,none⟩),.int .i64 k] w (fun e w'=>e=.returned (.bool (decide (k<=hi)))/\w'=w):=by
 have K:=h.c2;go_enter func162,ntmps162;exact t6u
def LdS(cl:Int->Int)(w:World)(B L:Nat)(s:List Int×Int):Prop:=∃v,LdAt w L v s.2 (Nm.hgh cl (Nm.bhd s))/\Ok .i32 21 w B v s.1/\B<=L
def LayB(cl:Int->Int)(B L:Nat)(w:World)(s:List Int×Int)(e:Ending)(w':World):Prop:=e=.returned (.tuple #[])/\LdS cl w' B L s/\Below B w w'
theorem y1o(w:World){n}(F:n=w.heap.size) c(h:Rune c):Sk .i32 (w.alloc (.cells #[.int .i32 c] 21)) (.slice (some ⟨n,0,none⟩) 1 1) [c]:=by
 subst F;exact lit15 w [c] 1 rfl f6J f6J _ rfl (fun z T=>(by simpa using T:z=c) ▸ h)
theorem lay18{cl}(F:∀c,0<=cl c/\cl c<=254){w B L s}(l:Nm.In s)(hS:LdS cl w B L s) c(I:Rune c)(S:s.1.length<=10000000):Calls prog 164 #[.pointer (some ⟨L,0,none⟩),.int .i32 c,.int .i64 (cl c)] w (LayB cl B L w (s.1++[c],if cl c=0 then(s.1.length:Int)else s.2)):=by
 obtain⟨v,q,hO,r⟩:=hS;have g:=q.lt;obtain⟨J,M,N,d,X⟩:=hO.sk.shape;subst N;have p:=q.c0;have c1:=q.c1;have c2:=q.c2;have f0:=q.fz 0;have f1:=q.fz 1;have f2:=q.fz 2;have C:=O I;have G:=F c;have n:=Nm.y9s (cl:=cl) (Nm.bhd s);have af:=Nm.z5p (cl:=cl) (fun c=>(F c).2) f6J (Nm.bhd s);by_cases T:cl c=0
 ·rw[if_pos T,T];have Z:=O ((q.set1 (s.1.length:Int)).set2 (-1));have u:=(q.set1 (s.1.length:Int)).c2;have a:=(q.set1 (s.1.length:Int)).fz 2;have b:=(V Z).c0;have P:=O ((q.set1 (s.1.length:Int)).ok (j:=2) (x:=.int .i64 (-1)) (q.ok (j:=1) (x:=.int .i64 (s.1.length:Int)) hO));have ab:Hid (Below B w ((w.setCell ⟨L,1,none⟩ (.int .i64 (s.1.length:Int))).setCell ⟨L,2,none⟩ (.int .i64 (-1)))):=x0b (x0b (Below.refl B w) r _) r _
  have z:Hid (∀W R,LdAt W L (.slice J s.1.length M) (s.1.length:Int) (-1)->Ok .i32 21 W B (.slice J s.1.length M) s.1->Below B w W->∀o Q,Ok .i32 21 R B Q (s.1++[c])->(W.alloc o).grownBy R (Value.slice J s.1.length M).ownBlock->LdAt R L (.slice J s.1.length M) (s.1.length:Int) (-1)/\LayB cl B L w (s.1++[c],(s.1.length:Int)) (.returned (.tuple #[])) (R.setCell ⟨L,0,none⟩ Q)):=fun W R h1 D h3 o Q H K=>by
   have h6:=(h1.below ((Below.refl W.heap.size W).alloc (l0r _) o)).grown (x2g D o).2.2 K;have f:=h3.size;refine⟨h6,rfl,⟨Q,?_,h6.ok H,r⟩,x0b ((h3.alloc f6J o).grown K T7G (fun k G=>(D.2.2.lt k G).1)) r _⟩;show LdAt _ L Q (s.1.length:Int) (Nm.hgh cl (Nm.bhd (s.1++[c],(s.1.length:Int))));rw[Nm.z7k];exact h6.set0 Q
  have f:=(V ab).size;have Y:B<=w.heap.size:=f6J;exact v8O
 ·rw[if_neg T];have Z:=O (q.set2 (max (Nm.hgh cl (Nm.bhd s)) (cl c)));have b:=(V Z).c0;have P:=O (q.ok (j:=2) (x:=.int .i64 (max (Nm.hgh cl (Nm.bhd s)) (cl c))) hO);have ab:Hid (Below B w (w.setCell ⟨L,2,none⟩ (.int .i64 (max (Nm.hgh cl (Nm.bhd s)) (cl c))))):=x0b (Below.refl B w) r _
  have z:Hid (∀W R,LdAt W L (.slice J s.1.length M) s.2 (max (Nm.hgh cl (Nm.bhd s)) (cl c))->Ok .i32 21 W B (.slice J s.1.length M) s.1->Below B w W->∀o Q,Ok .i32 21 R B Q (s.1++[c])->(W.alloc o).grownBy R (Value.slice J s.1.length M).ownBlock->LdAt R L (.slice J s.1.length M) s.2 (max (Nm.hgh cl (Nm.bhd s)) (cl c))/\LayB cl B L w (s.1++[c],s.2) (.returned (.tuple #[])) (R.setCell ⟨L,0,none⟩ Q)):=fun W R h1 D h3 o Q H K=>by
   have h6:=(h1.below ((Below.refl W.heap.size W).alloc (l0r _) o)).grown (x2g D o).2.2 K;have f:=h3.size;refine⟨h6,rfl,⟨Q,?_,h6.ok H,r⟩,x0b ((h3.alloc f6J o).grown K T7G (fun k G=>(D.2.2.lt k G).1)) r _⟩;show LdAt _ L Q s.2 (Nm.hgh cl (Nm.bhd (s.1++[c],s.2)));rw[Nm.z7j l,Nm.z3u,(f6J:max (Nm.hgh cl (Nm.bhd s)) (max (cl c) (-1))=max (Nm.hgh cl (Nm.bhd s)) (cl c))];exact h6.set0 Q
  have f:=(V ab).size;have Y:B<=w.heap.size:=f6J;have m:(cl c==0)=false:=(by grind);exact v8O
theorem Ok.setAt18{K e w B g n cap}{zs}(h:Ok K e w B (.slice (some ⟨g,0,none⟩) n cap) zs) k z(T:Fit K [z]) :
  Ok K e (w.setCell ⟨g,k,none⟩ (.int K z)) B (.slice (some ⟨g,0,none⟩) n cap) (zs.set k z)/\w.frozen? ⟨g,k,none⟩=false:=by
 have Q:=h.row;rcases Q.2 with⟨R,_⟩ | ⟨S,t,P,N,Y,H,F,W,f,U⟩
 ·cases R
 ·exact f5Q
theorem LdS.below{cl w w' B L s}(h:LdS cl w B L s)(Y:Bw w w'):LdS cl w' B L s:=by
 obtain⟨v,Z,D,J⟩:=h;exact⟨v,Z.below Y,D.below Y,J⟩
structure NmC(p:Nat)(cl:Int->Int)(cp:Int->Int->Int×Bool)(w0:World):Prop where
 cr:∀c,0<=cl c/\cl c<=254
 pr:∀a b,Rune a->Rune b->Rune (cp a b).1
 c:∀c,Rune c->∀W,Below w0.heap.size w0 W->Calls prog 161 #[.pointer (some ⟨p,0,none⟩),.int .i32 c] W (IntB W (cl c))
 k:∀a b,Rune a->Rune b->∀W,Below w0.heap.size w0 W->Calls prog 163 #[.pointer (some ⟨p,0,none⟩),.int .i32 a,.int .i32 b] W (fun e w'=>e=.returned (.tuple #[.int .i32 (cp a b).1,.bool (cp a b).2])/\w'=W)
theorem q1x{p cl cp w0}(B:NmC p cl cp w0){w L s}(Y:Bw w0 w)(l:Nm.In s)(K:LdS cl w w0.heap.size L s) c(I:Rune c)(hl:s.1.length<=10000000):Calls prog 113 #[.pointer (some ⟨L,0,none⟩),.pointer (some ⟨p,0,none⟩),.int .i32 c] w (LayB cl w0.heap.size L w (Nm.stp cl cp s c)):=by
 have b:=O (B.c c I w Y);have aj:=B.cr c;have E:=Y.size;have KL:Hid (∀W,Bw w W->Calls prog 164 #[.pointer (some ⟨L,0,none⟩),.int .i32 c,.int .i64 (cl c)] W (LayB cl w0.heap.size L w (s.1++[c],if cl c=0 then(s.1.length:Int)else s.2))):=fun W P=>(lay18 B.cr l (K.below P) c I hl).mono fun e o h=>⟨h.1,h.2.1,(P.mono E).trans h.2.2⟩;have ar:=Nm.y9s (cl:=cl) (Nm.bhd s);have aw:=Nm.z5p (cl:=cl) (fun c=>(B.cr c).2) f6J (Nm.bhd s);have ay:=l.1;have az:=l.2;by_cases h0:s.2<0
 ·have i:s.2=-1:=by omega
  have R:Nm.stp cl cp s c=(s.1++[c],if cl c=0 then(s.1.length:Int)else s.2):=by
   unfold Nm.stp Nm.fits;rw[d0f f6J];rfl
  have Z:Hid (∀W,Bw w W->W.cell? ⟨L,1,none⟩=some (.int .i64 (-1))):=fun W P=>by
   obtain⟨v,h1,_,_⟩:=K.below P;rw[<- i];exact h1.c1
  rw[R];generalize(s.1++[c],if cl c=0 then(s.1.length:Int)else s.2)=s2 at *;go_enter func113,ntmps113;go_wp2_with fail;refine c0m b fun Q b1=>?_;have u:=V Z Q b1;have K2:=O (V KL Q b1);go_wp2_with fail;refine(V K2).mono ?_;rintro e T h2;obtain⟨rfl,h2⟩:=h2;have U:=O h2;go_wp2;go_end0;exact⟨rfl,V U⟩
 ·obtain⟨st,R⟩:∃st:Nat,s.2=(st:Int):=⟨s.2.toNat,f6J⟩;have x:st<s.1.length:=f6J;have C:s.2.toNat=st:=f6J;obtain⟨v0,ag,j,r⟩:=K;obtain⟨g,M,hv,aq,am⟩:=z0B j.row f6J;subst hv;have ai:w0.heap.size<=g:=(j.2.2.lt g V3L).1;have HA:Hid (∀W,Bw w W->LdAt W L (.slice (some ⟨g,0,none⟩) s.1.length M) (st:Int) (Nm.hgh cl (Nm.bhd s))/\Ok .i32 21 W w0.heap.size (.slice (some ⟨g,0,none⟩) s.1.length M) s.1):=fun W P=>⟨R ▸ ag.below P,j.below P⟩;have ae:Rune (s.1.getD st 0):=x0W j.sk x
  have X:Hid (∀W,Bw w W->W.cell? ⟨g,st,none⟩=some (.int .i32 (s.1.getD st 0))):=fun W P=>by
   obtain⟨b3,o3,q3,N,_,_,J⟩:=(j.below P).sk.place f6J;simp only[Value.slice.injEq,Option.some.injEq,Addr.mk.injEq]at N;obtain⟨⟨rfl,rfl,_⟩,_,_⟩:=N;have h4:=J st x;rwa [Nat.zero_add]at h4
  have KK:Hid (∀W,Bw w W->Calls prog 163 #[.pointer (some ⟨p,0,none⟩),.int .i32 (s.1.getD st 0),.int .i32 c] W (fun e o=>e=.returned (.tuple #[.int .i32 (cp (s.1.getD st 0) c).1,.bool (cp (s.1.getD st 0) c).2])/\o=W)):=fun W P=>B.k _ _ ae I W (bthen Y P);have af:=O (B.pr _ _ ae I)
  have D:Hid ((Nm.blk cl (Nm.bhd s) (cl c)=true\/(cp (s.1.getD st 0) c).2=false)->Nm.stp cl cp s c=(s.1++[c],if cl c=0 then(s.1.length:Int)else s.2)):=fun h=>by
   unfold Nm.stp Nm.fits;rw[C];rcases h with h | h<;>rw[h]<;>simp
  have F:Hid (Nm.blk cl (Nm.bhd s) (cl c)=false->(cp (s.1.getD st 0) c).2=true->Nm.stp cl cp s c=(s.1.set st (cp (s.1.getD st 0) c).1,s.2)):=fun h1 h2=>by
   unfold Nm.stp Nm.fits;rw[C,h1,h2,d0t f6J];rfl
  have G:Hid (∀q,Nm.bhd (s.1.set st q,s.2)=Nm.bhd s):=fun q=>by
   rcases Nm.hgh_fit s q with h | h
   ·rw[C]at h;exact h
   ·omega
  have H:=O (Nm.z6m (cl:=cl) (Nm.bhd s) aj.1)
  have KB:Hid (∀W,Bw w W->Calls prog 162 #[.pointer (some ⟨L,0,none⟩),.int .i64 (cl c)] W (fun e o=>e=.returned (.bool (Nm.blk cl (Nm.bhd s) (cl c)))/\o=W)):=fun W P=>by
   have:=z2A (V HA W P).1 (cl c);rw[<- V H]at this;exact this
  have ab:Hid (∀q W,Rune q->Bw w W->W.frozen? ⟨g,st,none⟩=false/\LayB cl w0.heap.size L w (s.1.set st q,s.2) (.returned (.tuple #[])) (W.setCell ⟨g,st,none⟩ (.int .i32 q))):=fun q W d P=>by
   obtain⟨t,a2⟩:=V HA W P;obtain⟨o1,f1⟩:=a2.setAt18 st q (fun z hz=>by rw[List.mem_singleton]at hz;rw[hz];exact x1i d);refine⟨f1,rfl,⟨.slice (some ⟨g,0,none⟩) s.1.length M,?_,o1,r⟩,x0b (P.mono E) ai _⟩;show LdAt _ L _ s.2 (Nm.hgh cl (Nm.bhd (s.1.set st q,s.2)));rw[V G q,R];have y:L≠g:=fun e=>t.apart a2.2.2 (by rw[e];rfl);unfold LdAt;rw[x0e _ y];exact t
  generalize Nm.blk cl (Nm.bhd s) (cl c)=bk,(s.1++[c],if cl c=0 then(s.1.length:Int)else s.2)=s2 at *;have Z:Hid (∀W,Bw w W->W.cell? ⟨L,1,none⟩=some (.int .i64 (st:Int))/\W.cell? ⟨L,0,none⟩=some (.slice (some ⟨g,0,none⟩) s.1.length M)):=fun W P=>⟨(V HA W P).1.c1,(V HA W P).1.c0⟩;generalize cl c=k at *
  cases bk with
  | true =>
   rw[V D (.inl rfl)];go_enter func113,ntmps113;go_wp2_with fail;refine c0m b fun Q b1=>?_;obtain⟨u,x0⟩:=V Z Q b1;have K1:=O (V KB Q b1);have K2:=O (V KL Q b1);go_wp2_with fail;refine(V K1).mono ?_;rintro e T ⟨rfl,rfl⟩;go_wp2_with fail;refine(V K2).mono ?_;rintro e w3 J;obtain⟨rfl,J⟩:=J;have U:=O J;go_wp2;go_end0;exact⟨rfl,V U⟩
  | false =>
   go_enter func113,ntmps113;go_wp2_with fail;refine c0m b fun Q b1=>?_;obtain⟨u,x0⟩:=V Z Q b1;have x3:=V X Q b1;have K1:=O (V KB Q b1);have K2:Hid (∀m:Nat,Calls prog 164 #[.pointer (some ⟨L,0,none⟩),.int .i32 c,.int .i64 k] (Q.drewN m) (LayB cl w0.heap.size L w s2)):=fun m=>V KL _ (bthen b1 (x0i ⟨m,rfl⟩));have S:=fun m:Nat=>O (V KK (Q.drewN m) (bthen b1 (x0i ⟨m,rfl⟩)));have A:Hid (∀W,Bw Q W->W.frozen? ⟨g,st,none⟩=false/\LayB cl w0.heap.size L w (s.1.set st (cp (s.1.getD st 0) c).1,s.2) (.returned (.tuple #[])) (W.setCell ⟨g,st,none⟩ (.int .i32 (cp (s.1.getD st 0) c).1))):=fun W P=>V ab _ W (V af) (bthen b1 P);generalize(s.1.set st (cp (s.1.getD st 0) c).1,s.2)=s3 at *;generalize(cp (s.1.getD st 0) c).1=q at *;generalize(cp (s.1.getD st 0) c).2=ok at *;generalize s.1.getD st 0=a at *;generalize Nm.stp cl cp s c=s4,s.1.length=n at *;go_wp2_with fail;refine(V K1).mono ?_;rintro e T ⟨rfl,rfl⟩
   cases ok with
   | false =>
    obtain rfl:s4=s2:=V D M7L;go_wp2;go_quiet(first| (go_at_call 163;exact Calls.quiet_of_same (V (S _))));go_wp2_with fail;refine(V K2 _).mono ?_;rintro e w3 J;obtain⟨rfl,J⟩:=J;have U:=O J;go_wp2;go_end0;exact t8u
   | true =>
    obtain rfl:s4=s3:=V F M7L M7L;go_wp2;go_quiet(first| (go_at_call 163;exact Calls.quiet_of_same (V (S _))));go_wp2;have f3:=(V A T (b0r)).1;have f:Hid (∀m:Nat,LayB cl w0.heap.size L w s4 (.returned (.tuple #[])) ((T.drewN m).setCell ⟨g,st,none⟩ (.int .i32 q))):=fun m=>(V A _ (x0i ⟨m,rfl⟩)).2;go_region;go_wp2;go_end0;exact V f _
namespace Nm
variable {cl:Int->Int} {cp:Int->Int->Int×Bool}
end Nm
theorem q0u(n:Nat) w B(l:B<=w.heap.size)(F:n<=3000000):∃W,(Instr.makeSlice 36 (.int .i64 0) (.int .i64 (n:Int))).run prog w=.ok (.slice (some ⟨w.heap.size,0,none⟩) 0 n) W/\Ok .i32 21 W B (.slice (some ⟨w.heap.size,0,none⟩) 0 n) []/\w.grownBy W none:=by
 obtain⟨i,hi,y,Y,m⟩:=info_parts y2U;exact t8i
theorem y5I{p cl cp w}(hN:NmC p cl cp w){xv X}(A:Sk .i32 w xv X)(ae:X.length<=3000000):Calls prog 65 #[.pointer (some ⟨p,0,none⟩),xv] w (x0h w (Nm.cps cl cp X)):=by
 have C:Hid (∀(k:Nat),k<X.length->∃b R M,xv=.slice (some ⟨b,R,none⟩) X.length M/\∀W,Bw w W->W.cell? ⟨b,R+k,none⟩=some (.int .i32 (X.getD k 0))):=fun k G=>by
  obtain⟨b,R,M,P,_,_,I⟩:=A.place f6J;exact⟨b,R,M,P,fun W hW=>by rw[hW.cell (x0a (I k G))];exact I k G⟩
 have F:Hid (∀k L wr,k<X.length->Bw w wr->LdS cl wr w.heap.size L (Nm.run cl cp (X.take k))->Calls prog 113 #[.pointer (some ⟨L,0,none⟩),.pointer (some ⟨p,0,none⟩),.int .i32 (X.getD k 0)] wr (LayB cl w.heap.size L wr (Nm.run cl cp (X.take (k+1))))):=fun k L wr G s o=>by
  rw[Nm.z4x G];have hi:=Nm.z1i (cl:=cl) (cp:=cp) (X.take k);have:=hi.2;rw[List.length_take]at this;exact q1x hN s hi.1 o _ (x0W A G) f6J
 obtain⟨m,ab,g,g0⟩:=q0u X.length w w.heap.size (l0r _) ae;have f:Bw w m:=(b0r).grown g0 (l0r _) (fun k G=>by cases G);have S:=f.size
 have t:Hid (LdS cl (m.alloc (.cells #[.slice (some ⟨w.heap.size,0,none⟩) 0 X.length,.int .i64 (-1),.int .i64 (-1)] 197)) w.heap.size m.heap.size (Nm.run cl cp (X.take 0))):=by
  refine⟨.slice (some ⟨w.heap.size,0,none⟩) 0 X.length,?_,x2g g _,S⟩;show(m.heap.push _)[m.heap.size]?=_;rw[List.take_zero];simp;exact⟨rfl,rfl⟩
 have x:Hid (Bw w (m.alloc (.cells #[.slice (some ⟨w.heap.size,0,none⟩) 0 X.length,.int .i64 (-1),.int .i64 (-1)] 197))):=f.alloc S _
 have z:Hid (∀L wr,LdS cl wr w.heap.size L (Nm.run cl cp (X.take X.length))->Bw w wr->∃v,wr.cell? ⟨L,0,none⟩=some v/\(∃J n M,v=.slice J n M)/\x0h w (Nm.cps cl cp X) (.returned v) wr):=fun L wr h s=>by
  rw[List.take_length]at h;obtain⟨v,Z,D,_⟩:=h;obtain⟨J,M,e,_,_⟩:=D.sk.shape;exact⟨v,Z.c0,⟨J,_,M,e⟩,v,rfl,D,s⟩
 obtain⟨J,M,rfl,_,_⟩:=A.shape;clear hN A g g0 f;generalize Nm.cps cl cp X=out at *;go_enter func65,ntmps65;go_wp2;generalize hLe:m.heap.size=L at *;clear hLe;go_loopw[7,14] (fun _ iv wr=>∃k:Nat,iv=.int .i64 k/\k<=X.length/\LdS cl wr w.heap.size L (Nm.run cl cp (X.take k))/\Bw w wr) (fun _ iv _=>X.length-(intOf iv).toNat)
 case atStart=>exact⟨0,rfl,f6J,V t,V x⟩
 case round =>
  obtain⟨k,rfl,G,o,y⟩:=hrel;clear t x ab;by_cases E:k<X.length
  ·have a:(k:Int)<X.length:=f6J;obtain⟨b,R,T,P,H⟩:=V C k E;simp only[Value.slice.injEq]at P;obtain⟨rfl,-,rfl⟩:=P;have j:=H wr y;have K:=O (V F k L wr E y o);have Y:=O y;have B:Hid (∀W,LdS cl W w.heap.size L (Nm.run cl cp (X.take (k+1)))->Bw w W->∃n:Nat,Value.int .i64 ((k:Int)+1)=.int .i64 (n:Int)/\n<=X.length/\LdS cl W w.heap.size L (Nm.run cl cp (X.take n))/\Bw w W):=fun W Z D=>⟨k+1,g2B,f6J,Z,D⟩;clear o H y C F z;generalize Nm.run cl cp (X.take (k+1))=s2,X.getD k 0=c at *;go_wp2_with fail;refine(V K).mono ?_;rintro e Q ⟨rfl,Z,D⟩;have U:=O (V B Q Z ((V Y).trans D));clear K Y B Z D j;go_wp2
   go_roundw
   case rel=>exact V U
   case measure=>exact g7T
  ·have q:k=X.length:=f6J;subst q;obtain⟨v,u,⟨r,d,i,rfl⟩,N⟩:=V z L wr o y;have U:=O N;clear o y C F z N;exact s1h
def NfdC(p:Nat)(nf:List Int->List Int)(w0:World):Prop:=(∀X,(nf X).length<=32*X.length)/\∀xv X W,Below w0.heap.size w0 W->Sk .i32 W xv X->X.length<=65536->Calls prog 64 #[.pointer (some ⟨p,0,none⟩),xv] W (fun e w'=>∃v,e=.returned (.tuple #[v,.int .i64 0])/\Ok .i32 21 w' W.heap.size v (nf X)/\Below W.heap.size W w')
theorem NmC.on{p cl cp w W}(h:NmC p cl cp w)(Y:Bw w W):NmC p cl cp W:=⟨h.cr,h.pr,fun c I R P=>h.c c I R (bthen Y P),fun a b d K R P=>h.k a b d K R (bthen Y P)⟩
theorem q0B{p cl cp nf}{w}(B:NmC p cl cp w)(N:NfdC p nf w){xv X}(A:Sk .i32 w xv X)(z:X.length<=65536):Calls prog 34 #[.pointer (some ⟨p,0,none⟩),xv] w (fun e w'=>∃v,e=.returned (.tuple #[v,.int .i64 0])/\Ok .i32 21 w' w.heap.size v (Nm.cps cl cp (nf X))/\Bw w w'):=by
 have K:=O (N.2 xv X w (b0r) A z);have l:=N.1 X;have b:Hid (∀W c,Bw w W->Sk .i32 W c (nf X)->Calls prog 65 #[.pointer (some ⟨p,0,none⟩),c] W (x0h W (Nm.cps cl cp (nf X)))):=fun W c P hy=>y5I (B.on P) hy f6J;obtain⟨J,M,rfl,_,_⟩:=A.shape;clear B N A;generalize Nm.cps cl cp (nf X)=out at *;generalize nf X=Y at *;go_enter func34,ntmps34;go_wp2_with fail;refine(V K).mono ?_;rintro e Q ⟨u,rfl,G,b1⟩;have g:=O (V b Q u b1 G.sk);obtain⟨D,C,d,_,_⟩:=G.sk.shape;subst d;have x:=O b1;have f:=b1.size;clear K b G b1;go_wp2_with fail;refine(V g).mono ?_;rintro e T ⟨o,rfl,F,m⟩;obtain⟨r,i,H,_,_⟩:=F.sk.shape;subst H;have U:Hid (Ok .i32 21 T w.heap.size (.slice r out.length i) out/\Bw w T):=⟨F.lower f,bthen (V x) m⟩;clear g F m x;go_wp2;go_ret2;exact⟨_,rfl,V U⟩
theorem isN18{p cl cp nf}{w}(B:NmC p cl cp w)(N:NfdC p nf w){xv X}(A:Sk .i32 w xv X)(z:X.length<=65536):Calls prog 14 #[.pointer (some ⟨p,0,none⟩),xv] w (fun e w'=>e=.returned (.tuple #[.bool (decide (X=Nm.cps cl cp (nf X))),.int .i64 0])/\Bw w w'):=by
 have K:=O (q0B B N A z);have Z:Hid (∀W c,Bw w W->Sk .i32 W c (Nm.cps cl cp (nf X))->Calls prog 35 #[xv,c] W (x0g W (decide (X=Nm.cps cl cp (nf X))))):=fun W c P hy=>(y4m xv c X _ W (A.below P) hy).mono fun _ _ h=>⟨h.1,x0i h.2⟩;obtain⟨J,M,rfl,_,_⟩:=A.shape;clear B N A;generalize Nm.cps cl cp (nf X)=out at *;generalize decide (X=out)=r at *;go_enter func14,ntmps14;go_wp2_with fail;refine(V K).mono ?_;rintro e Q ⟨u,rfl,G,b1⟩;have g:=O (V Z Q u b1 G.sk);obtain⟨D,C,d,_,_⟩:=G.sk.shape;subst d;have x:=O b1;clear K Z G b1;go_wp2_with fail;refine c0m g fun T m=>?_;have U:=O (bthen (V x) m);clear g x m;go_wp2;go_ret2;exact⟨rfl,V U⟩
