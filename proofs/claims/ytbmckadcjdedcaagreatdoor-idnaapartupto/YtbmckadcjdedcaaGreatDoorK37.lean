/- Lemmas. -/
import Derived.Test.YtbmckadcjdedcaaGreatDoorK36
import Derived.Deep.DeepCutAuto
import Derived.Deep.CutBlock
import Derived.Lib.MinMaxS
import Derived.Laws.MakeOwn
set_option maxHeartbeats 4000000
set_option maxRecDepth 8000
namespace Go.Proofs.YtbmckadcjdedcaaGreatDoor
open Go.Proofs.Tryz
open Go.RowKit
section
variable{p:Prop}
theorem n4B(h:p:=by unfold LdAt at *;rw[x0f h];rfl):p:=h
theorem r4w(h:p:=by generalize s.1=out at *;go_enter func101,ntmps101;go_wp2_with(at_builtin;refine y3g rfl (.tmp 32) (.tmp 34) rfl B _ _ out [c] rfl rfl (x2m (V I) _) (y0y _ M7L c (V HC)) (by first| omega|(simp;omega)) R5w ?_);intro K l z H;obtain⟨g1,T⟩:=V C _ l (V N) (V I) (V Q) _ K z H;have P:=g1.c0;have f:=g1.fz 0;have Y:=O T;obtain⟨g,J,ab,_,_⟩:=z.sk.shape;subst ab;rw[(M7L:(out++[c]).length=out.length+1)]at Y;go_wp2;go_end0;exact V Y):p:=h
theorem R5w(h:p:=by rw[x0x];exact f6J):p:=h
end
namespace Nm
variable {cl:Int->Int} {cp:Int->Int->Int×Bool}
def hgh(cl:Int->Int):List Int->Int
 | []=>-1
 | c::l=>max (cl c) (hgh cl l)
def blk(cl:Int->Int)(l:List Int)(k:Int):Bool:=l.any fun c=>decide (k<=cl c)
theorem z4I l{k}(G:0<=k):blk cl l k=decide (k<=hgh cl l):=by
 unfold blk
 induction l with
 | nil=>rw[hgh,d0f f6J];rfl
 | cons c l ih =>
  rw[List.any_cons,ih,hgh];by_cases Z:k<=cl c
  ·grind
  ·grind
theorem z1Y l c:hgh cl (l++[c])=max (hgh cl l) (max (cl c) (-1)):=by
 induction l with
 | nil=>show max (cl c) (-1)=max (-1) (max (cl c) (-1));omega
 | cons d l ih=>rw[List.cons_append,hgh,ih,hgh];omega
theorem y8x l:-1<=hgh cl l:=by
 cases l with
 | nil=>exact Int.le_refl _
 | cons c l=>rw[hgh];have:=y8x l;omega
theorem z3I{M:Int}(J:∀c,cl c<=M)(A:-1<=M) l:hgh cl l<=M:=by
 induction l with
 | nil=>exact A
 | cons c l ih=>rw[hgh];have:=J c;omega
def bhd(s:List Int×Int):List Int:=s.1.drop (s.2+1).toNat
def fits(cl:Int->Int)(cp:Int->Int->Int×Bool)(s:List Int×Int)(c:Int):Bool:=decide (0<=s.2)&&(!(blk cl (bhd s) (cl c))&&(cp (s.1.getD s.2.toNat 0) c).2)
def stp(cl:Int->Int)(cp:Int->Int->Int×Bool)(s:List Int×Int)(c:Int):List Int×Int:=if fits cl cp s c=true then(s.1.set s.2.toNat (cp (s.1.getD s.2.toNat 0) c).1,s.2)else(s.1++[c],if cl c=0 then(s.1.length:Int)else s.2)
def run(cl:Int->Int)(cp:Int->Int->Int×Bool)(X:List Int):List Int×Int:=X.foldl (stp cl cp) ([],-1)
def cps(cl:Int->Int)(cp:Int->Int->Int×Bool)(X:List Int):List Int:=(run cl cp X).1
theorem x4v X c:run cl cp (X++[c])=stp cl cp (run cl cp X) c:=by
 unfold run;rw[List.foldl_append];rfl
theorem z2X{X:List Int}{k}(h:k<X.length):run cl cp (X.take (k+1))=stp cl cp (run cl cp (X.take k)) (X.getD k 0):=by
 rw[List.take_add_one,<- x4v];exact p8I
def In(s:List Int×Int):Prop:=-1<=s.2/\s.2<s.1.length
theorem z9F{s}(h:In s) c:In (stp cl cp s c)/\(stp cl cp s c).1.length<=s.1.length+1:=by
 unfold In at *;unfold stp;split
 ·exact f4R
 ·simp;exact G7q
theorem z0e X:In (run cl cp X)/\(run cl cp X).1.length<=X.length:=by
 obtain⟨M,rfl⟩:∃M:List Int,X=M.reverse:=⟨X.reverse,by rw[List.reverse_reverse]⟩
 induction M with
 | nil=>exact⟨⟨Int.le_refl _,(e8M:(-1:Int)<0)⟩,l0r _⟩
 | cons c l ih =>
  rw[List.reverse_cons,x4v];have h:=z9F (cl:=cl) (cp:=cp) ih.1 c;refine⟨h.1,?_⟩;rw[List.length_append];have:=h.2;have:=ih.2;simp only[List.length_cons,List.length_nil];omega
theorem hgh_fit s p:bhd (s.1.set s.2.toNat p,s.2)=bhd s\/s.2<0:=by
 by_cases A:s.2<0
 ·exact .inr A
 ·refine .inl ?_;unfold bhd;rw[List.drop_set_of_lt];omega
theorem z5E(s:List Int×Int) c:bhd (s.1++[c],(s.1.length:Int))=[]:=by
 unfold bhd;rw[List.drop_eq_nil_iff];simp
theorem z5D{s}(h:In s) c:bhd (s.1++[c],s.2)=bhd s++[c]:=by
 unfold bhd;obtain⟨Z,D⟩:=h;rw[List.drop_append_of_le_length];show(s.2+1).toNat<=s.1.length;omega
end Nm
def LdAt(w:World)(L:Nat)(v:Value)(st hi:Int):Prop:=w.heap[L]?=some (.cells #[v,.int .i64 st,.int .i64 hi] 102 (0,0))
section
variable {w:World} {L:Nat} {v:Value} {st hi:Int}
theorem LdAt.c0(h:LdAt w L v st hi):w.cell? ⟨L,0,none⟩=some v:=cell_of (j:=0) h T7b
theorem LdAt.c1(h:LdAt w L v st hi):w.cell? ⟨L,1,none⟩=some (.int .i64 st):=cell_of (j:=1) h f2O
theorem LdAt.c2(h:LdAt w L v st hi):w.cell? ⟨L,2,none⟩=some (.int .i64 hi):=cell_of (j:=2) h U4t
theorem LdAt.fz(h:LdAt w L v st hi) j:w.frozen? ⟨L,j,none⟩=false:=x0e h
theorem LdAt.lt(h:LdAt w L v st hi):L<w.heap.size:=x0a h.c0
theorem LdAt.below{w'}(h:LdAt w L v st hi)(Q:Bw w w'):LdAt w' L v st hi:=by
 unfold LdAt at *;rw[Q.block L (LdAt.lt h)];exact h
theorem LdAt.set0(h:LdAt w L v st hi) x:LdAt (w.setCell ⟨L,0,none⟩ x) L x st hi:=n4B
theorem LdAt.set1(h:LdAt w L v st hi) x:LdAt (w.setCell ⟨L,1,none⟩ (.int .i64 x)) L v x hi:=n4B
theorem LdAt.set2(h:LdAt w L v st hi) x:LdAt (w.setCell ⟨L,2,none⟩ (.int .i64 x)) L v st x:=n4B
theorem LdAt.apart(h:LdAt w L v st hi){B n u us}(j:w.ownsRow B 21 1 u n us):u.ownBlock≠some L:=by
 intro e;rcases j.2 with⟨rfl,_⟩ | ⟨g,M,t,rfl,_,C,_⟩
 ·cases e
 ·simp[Value.ownBlock]at e;subst e;unfold LdAt at h;rw[C]at h;simp at h
theorem LdAt.grown{w'}(h:LdAt w L v st hi){B n u us}(j:w.ownsRow B 21 1 u n us)(C:w.grownBy w' u.ownBlock):LdAt w' L v st hi:=by
 have H:=h.apart j;unfold LdAt at *;rw[C.block L (LdAt.lt h) (fun e=>H e.symm)];exact h
theorem LdAt.ok{j B x u zs}(h:LdAt w L v st hi)(A:Ok .i32 21 w B u zs):Ok .i32 21 (w.setCell ⟨L,j,none⟩ x) B u zs:=by
 refine⟨A.1,A.2.1,x0v A.2.2 fun g C=>?_⟩;exact x0g _ (fun e=>h.apart A.2.2 (by rw[<- e];exact C))
end
theorem z1p{w L v st hi}(h:LdAt w L v st hi) k:Calls prog 99 #[.pointer (some ⟨L,0,none⟩),.int .i64 k] w (fun e w'=>e=.returned (.bool (decide (k<=hi)))/\w'=w):=by
 have U:=h.c2;go_enter func99,ntmps99;exact t6u
def LdS(cl:Int->Int)(w:World)(B L:Nat)(s:List Int×Int):Prop:=∃v,LdAt w L v s.2 (Nm.hgh cl (Nm.bhd s))/\Ok .i32 21 w B v s.1/\B<=L
def LayB(cl:Int->Int)(B L:Nat)(w:World)(s:List Int×Int)(e:Ending)(w':World):Prop:=e=.returned (.tuple #[])/\LdS cl w' B L s/\Below B w w'
theorem y0y(w:World){n}(E:n=w.heap.size) c(h:Rune c):Sk .i32 (w.alloc (.cells #[.int .i32 c] 21)) (.slice (some ⟨n,0,none⟩) 1 1) [c]:=by
 subst E;exact lit15 w [c] 1 rfl f6J f6J _ rfl (fun z o=>(by simpa using o:z=c) ▸ h)
theorem lay18{cl}(E:∀c,0<=cl c/\cl c<=254){w B L s}(ae:Nm.In s)(F:LdS cl w B L s) c(hc:Rune c)(hl:s.1.length<=10000000):Calls prog 101 #[.pointer (some ⟨L,0,none⟩),.int .i32 c,.int .i64 (cl c)] w (LayB cl B L w (s.1++[c],if cl c=0 then(s.1.length:Int)else s.2)):=by
 obtain⟨v,hA,b,d⟩:=F;have m:=hA.lt;obtain⟨R,M,hv,r,af⟩:=b.sk.shape;subst hv;have c0:=hA.c0;have c1:=hA.c1;have U:=hA.c2;have y:=hA.fz 0;have t:=hA.fz 1;have S:=hA.fz 2;have HC:=O hc;have G:=E c;have n:=Nm.y8x (cl:=cl) (Nm.bhd s);have u:=Nm.z3I (cl:=cl) (fun c=>(E c).2) f6J (Nm.bhd s);by_cases hz:cl c=0
 ·rw[if_pos hz,hz];have N:=O ((hA.set1 (s.1.length:Int)).set2 (-1));have i:=(hA.set1 (s.1.length:Int)).c2;have p:=(hA.set1 (s.1.length:Int)).fz 2;have d3:=(V N).c0;have I:=O ((hA.set1 (s.1.length:Int)).ok (j:=2) (x:=.int .i64 (-1)) (hA.ok (j:=1) (x:=.int .i64 (s.1.length:Int)) b));have Q:Hid (Below B w ((w.setCell ⟨L,1,none⟩ (.int .i64 (s.1.length:Int))).setCell ⟨L,2,none⟩ (.int .i64 (-1)))):=x0d (x0d (Below.refl B w) d _) d _
  have C:Hid (∀W A,LdAt W L (.slice R s.1.length M) (s.1.length:Int) (-1)->Ok .i32 21 W B (.slice R s.1.length M) s.1->Below B w W->∀o K,Ok .i32 21 A B K (s.1++[c])->(W.alloc o).grownBy A (Value.slice R s.1.length M).ownBlock->LdAt A L (.slice R s.1.length M) (s.1.length:Int) (-1)/\LayB cl B L w (s.1++[c],(s.1.length:Int)) (.returned (.tuple #[])) (A.setCell ⟨L,0,none⟩ K)):=fun W A Z D h3 o K z H=>by
   have q:=(Z.below ((Below.refl W.heap.size W).alloc (l0r _) o)).grown (x2m D o).2.2 H;have a:=h3.size;refine⟨q,rfl,⟨K,?_,q.ok z,d⟩,x0d ((h3.alloc f6J o).grown H R5w (fun k G=>(D.2.2.lt k G).1)) d _⟩;show LdAt _ L K (s.1.length:Int) (Nm.hgh cl (Nm.bhd (s.1++[c],(s.1.length:Int))));rw[Nm.z5E];exact q.set0 K
  have a:=(V Q).size;have X:B<=w.heap.size:=f6J;exact r4w
 ·rw[if_neg hz];have N:=O (hA.set2 (max (Nm.hgh cl (Nm.bhd s)) (cl c)));have d3:=(V N).c0;have I:=O (hA.ok (j:=2) (x:=.int .i64 (max (Nm.hgh cl (Nm.bhd s)) (cl c))) b);have Q:Hid (Below B w (w.setCell ⟨L,2,none⟩ (.int .i64 (max (Nm.hgh cl (Nm.bhd s)) (cl c))))):=x0d (Below.refl B w) d _
  have C:Hid (∀W A,LdAt W L (.slice R s.1.length M) s.2 (max (Nm.hgh cl (Nm.bhd s)) (cl c))->Ok .i32 21 W B (.slice R s.1.length M) s.1->Below B w W->∀o K,Ok .i32 21 A B K (s.1++[c])->(W.alloc o).grownBy A (Value.slice R s.1.length M).ownBlock->LdAt A L (.slice R s.1.length M) s.2 (max (Nm.hgh cl (Nm.bhd s)) (cl c))/\LayB cl B L w (s.1++[c],s.2) (.returned (.tuple #[])) (A.setCell ⟨L,0,none⟩ K)):=fun W A Z D h3 o K z H=>by
   have q:=(Z.below ((Below.refl W.heap.size W).alloc (l0r _) o)).grown (x2m D o).2.2 H;have a:=h3.size;refine⟨q,rfl,⟨K,?_,q.ok z,d⟩,x0d ((h3.alloc f6J o).grown H R5w (fun k G=>(D.2.2.lt k G).1)) d _⟩;show LdAt _ L K s.2 (Nm.hgh cl (Nm.bhd (s.1++[c],s.2)));rw[Nm.z5D ae,Nm.z1Y,(f6J:max (Nm.hgh cl (Nm.bhd s)) (max (cl c) (-1))=max (Nm.hgh cl (Nm.bhd s)) (cl c))];exact q.set0 K
  have a:=(V Q).size;have X:B<=w.heap.size:=f6J;have ag:(cl c==0)=false:=(by grind);exact r4w
theorem Ok.setAt18{K e w B g n cap}{zs}(h:Ok K e w B (.slice (some ⟨g,0,none⟩) n cap) zs) k z(o:Fit K [z]) :
  Ok K e (w.setCell ⟨g,k,none⟩ (.int K z)) B (.slice (some ⟨g,0,none⟩) n cap) (zs.set k z)/\w.frozen? ⟨g,k,none⟩=false:=by
 have C:=h.row;rcases C.2 with⟨A,_⟩ | ⟨S,J,t,N,Q,Y,E,F,a,I⟩
 ·cases A
 ·exact s1O
theorem LdS.below{cl w w' B L s}(h:LdS cl w B L s)(Q:Bw w w'):LdS cl w' B L s:=by
 obtain⟨v,Z,D,R⟩:=h;exact⟨v,Z.below Q,D.below Q,R⟩
structure NmC(p:Nat)(cl:Int->Int)(cp:Int->Int->Int×Bool)(w0:World):Prop where
 cr:∀c,0<=cl c/\cl c<=254
 pr:∀a b,Rune a->Rune b->Rune (cp a b).1
 c:∀c,Rune c->∀W,Below w0.heap.size w0 W->Calls prog 98 #[.pointer (some ⟨p,0,none⟩),.int .i32 c] W (IntB W (cl c))
 k:∀a b,Rune a->Rune b->∀W,Below w0.heap.size w0 W->Calls prog 100 #[.pointer (some ⟨p,0,none⟩),.int .i32 a,.int .i32 b] W (fun e w'=>e=.returned (.tuple #[.int .i32 (cp a b).1,.bool (cp a b).2])/\w'=W)
theorem z9J{p cl cp w0}(y:NmC p cl cp w0){w L s}(Q:Bw w0 w)(A:Nm.In s)(F:LdS cl w w0.heap.size L s) c(T:Rune c)(S:s.1.length<=10000000):Calls prog 57 #[.pointer (some ⟨L,0,none⟩),.pointer (some ⟨p,0,none⟩),.int .i32 c] w (LayB cl w0.heap.size L w (Nm.stp cl cp s c)):=by
 have KC:=O (y.c c T w Q);have B:=y.cr c;have J:=Q.size;have KL:Hid (∀W,Bw w W->Calls prog 101 #[.pointer (some ⟨L,0,none⟩),.int .i32 c,.int .i64 (cl c)] W (LayB cl w0.heap.size L w (s.1++[c],if cl c=0 then(s.1.length:Int)else s.2))):=fun W U=>(lay18 y.cr A (F.below U) c T S).mono fun e l h=>⟨h.1,h.2.1,(U.mono J).trans h.2.2⟩;have ay:=Nm.y8x (cl:=cl) (Nm.bhd s);have az:=Nm.z3I (cl:=cl) (fun c=>(y.cr c).2) f6J (Nm.bhd s);have aA:=A.1;have aB:=A.2;by_cases h0:s.2<0
 ·have i:s.2=-1:=by omega
  have E:Nm.stp cl cp s c=(s.1++[c],if cl c=0 then(s.1.length:Int)else s.2):=by
   unfold Nm.stp Nm.fits;rw[d0f f6J];rfl
  have Y:Hid (∀W,Bw w W->W.cell? ⟨L,1,none⟩=some (.int .i64 (-1))):=fun W U=>by
   obtain⟨v,Z,_,_⟩:=F.below U;rw[<- i];exact Z.c1
  rw[E];generalize(s.1++[c],if cl c=0 then(s.1.length:Int)else s.2)=s2 at *;go_enter func57,ntmps57;go_wp2_with fail;refine c0m KC fun I b1=>?_;have u:=V Y I b1;have K2:=O (V KL I b1);go_wp2_with fail;refine(V K2).mono ?_;rintro e d h2;obtain⟨rfl,h2⟩:=h2;have HF:=O h2;go_wp2;go_end0;exact⟨rfl,V HF⟩
 ·obtain⟨st,E⟩:∃st:Nat,s.2=(st:Int):=⟨s.2.toNat,f6J⟩;have r:st<s.1.length:=f6J;have K:s.2.toNat=st:=f6J;obtain⟨v0,ai,C,aj⟩:=F;obtain⟨g,M,N,aw,ar⟩:=y9z C.row f6J;subst N;have am:w0.heap.size<=g:=(C.2.2.lt g V3M).1;have HA:Hid (∀W,Bw w W->LdAt W L (.slice (some ⟨g,0,none⟩) s.1.length M) (st:Int) (Nm.hgh cl (Nm.bhd s))/\Ok .i32 21 W w0.heap.size (.slice (some ⟨g,0,none⟩) s.1.length M) s.1):=fun W U=>⟨E ▸ ai.below U,C.below U⟩;have j:Rune (s.1.getD st 0):=x1d C.sk r
  have X:Hid (∀W,Bw w W->W.cell? ⟨g,st,none⟩=some (.int .i32 (s.1.getD st 0))):=fun W U=>by
   obtain⟨b3,o3,q3,e3,_,_,R⟩:=(C.below U).sk.place f6J;simp only[Value.slice.injEq,Option.some.injEq,Addr.mk.injEq]at e3;obtain⟨⟨rfl,rfl,_⟩,_,_⟩:=e3;have h4:=R st r;rwa [Nat.zero_add]at h4
  have x:Hid (∀W,Bw w W->Calls prog 100 #[.pointer (some ⟨p,0,none⟩),.int .i32 (s.1.getD st 0),.int .i32 c] W (fun e l=>e=.returned (.tuple #[.int .i32 (cp (s.1.getD st 0) c).1,.bool (cp (s.1.getD st 0) c).2])/\l=W)):=fun W U=>y.k _ _ j T W (x0b Q U);have ag:=O (y.pr _ _ j T)
  have H:Hid ((Nm.blk cl (Nm.bhd s) (cl c)=true\/(cp (s.1.getD st 0) c).2=false)->Nm.stp cl cp s c=(s.1++[c],if cl c=0 then(s.1.length:Int)else s.2)):=fun h=>by
   unfold Nm.stp Nm.fits;rw[K];rcases h with h | h<;>rw[h]<;>simp
  have ab:Hid (Nm.blk cl (Nm.bhd s) (cl c)=false->(cp (s.1.getD st 0) c).2=true->Nm.stp cl cp s c=(s.1.set st (cp (s.1.getD st 0) c).1,s.2)):=fun Z h2=>by
   unfold Nm.stp Nm.fits;rw[K,Z,h2,d0t f6J];rfl
  have ae:Hid (∀q,Nm.bhd (s.1.set st q,s.2)=Nm.bhd s):=fun q=>by
   rcases Nm.hgh_fit s q with h | h
   ·rw[K]at h;exact h
   ·omega
  have af:=O (Nm.z4I (cl:=cl) (Nm.bhd s) B.1)
  have KB:Hid (∀W,Bw w W->Calls prog 99 #[.pointer (some ⟨L,0,none⟩),.int .i64 (cl c)] W (fun e l=>e=.returned (.bool (Nm.blk cl (Nm.bhd s) (cl c)))/\l=W)):=fun W U=>by
   have:=z1p (V HA W U).1 (cl c);rw[<- V af]at this;exact this
  have b:Hid (∀q W,Rune q->Bw w W->W.frozen? ⟨g,st,none⟩=false/\LayB cl w0.heap.size L w (s.1.set st q,s.2) (.returned (.tuple #[])) (W.setCell ⟨g,st,none⟩ (.int .i32 q))):=fun q W hq U=>by
   obtain⟨a1,P⟩:=V HA W U;obtain⟨o1,t⟩:=P.setAt18 st q (fun z hz=>by rw[List.mem_singleton]at hz;rw[hz];exact x0V hq);refine⟨t,rfl,⟨.slice (some ⟨g,0,none⟩) s.1.length M,?_,o1,aj⟩,x0d (U.mono J) am _⟩;show LdAt _ L _ s.2 (Nm.hgh cl (Nm.bhd (s.1.set st q,s.2)));rw[V ae q,E];have aq:L≠g:=fun e=>a1.apart P.2.2 (by rw[e];rfl);unfold LdAt;rw[x0g _ aq];exact a1
  generalize Nm.blk cl (Nm.bhd s) (cl c)=bk,(s.1++[c],if cl c=0 then(s.1.length:Int)else s.2)=s2 at *;have Y:Hid (∀W,Bw w W->W.cell? ⟨L,1,none⟩=some (.int .i64 (st:Int))/\W.cell? ⟨L,0,none⟩=some (.slice (some ⟨g,0,none⟩) s.1.length M)):=fun W U=>⟨(V HA W U).1.c1,(V HA W U).1.c0⟩;generalize cl c=k at *
  cases bk with
  | true =>
   rw[V H (.inl rfl)];go_enter func57,ntmps57;go_wp2_with fail;refine c0m KC fun I b1=>?_;obtain⟨u,x0⟩:=V Y I b1;have o:=O (V KB I b1);have K2:=O (V KL I b1);go_wp2_with fail;refine(V o).mono ?_;rintro e d ⟨rfl,rfl⟩;go_wp2_with fail;refine(V K2).mono ?_;rintro e w3 R;obtain⟨rfl,R⟩:=R;have HF:=O R;go_wp2;go_end0;exact⟨rfl,V HF⟩
  | false =>
   go_enter func57,ntmps57;go_wp2_with fail;refine c0m KC fun I b1=>?_;obtain⟨u,x0⟩:=V Y I b1;have x3:=V X I b1;have o:=O (V KB I b1);have K2:Hid (∀m:Nat,Calls prog 101 #[.pointer (some ⟨L,0,none⟩),.int .i32 c,.int .i64 k] (I.drewN m) (LayB cl w0.heap.size L w s2)):=fun m=>V KL _ (x0b b1 (x0k ⟨m,rfl⟩));have G:=fun m:Nat=>O (V x (I.drewN m) (x0b b1 (x0k ⟨m,rfl⟩)));have D:Hid (∀W,Bw I W->W.frozen? ⟨g,st,none⟩=false/\LayB cl w0.heap.size L w (s.1.set st (cp (s.1.getD st 0) c).1,s.2) (.returned (.tuple #[])) (W.setCell ⟨g,st,none⟩ (.int .i32 (cp (s.1.getD st 0) c).1))):=fun W U=>V b _ W (V ag) (x0b b1 U);generalize(s.1.set st (cp (s.1.getD st 0) c).1,s.2)=s3 at *;generalize(cp (s.1.getD st 0) c).1=q at *;generalize(cp (s.1.getD st 0) c).2=ok at *;generalize s.1.getD st 0=a at *;generalize Nm.stp cl cp s c=s4,s.1.length=n at *;go_wp2_with fail;refine(V o).mono ?_;rintro e d ⟨rfl,rfl⟩
   cases ok with
   | false =>
    obtain rfl:s4=s2:=V H M7L;go_wp2;go_quiet(first| (go_at_call 100;exact Calls.quiet_of_same (V (G _))));go_wp2_with fail;refine(V K2 _).mono ?_;rintro e w3 R;obtain⟨rfl,R⟩:=R;have HF:=O R;go_wp2;go_end0;exact⟨rfl,V HF⟩
   | true =>
    obtain rfl:s4=s3:=V ab M7L M7L;go_wp2;go_quiet(first| (go_at_call 100;exact Calls.quiet_of_same (V (G _))));go_wp2;have f3:=(V D d (b0r)).1;have f:Hid (∀m:Nat,LayB cl w0.heap.size L w s4 (.returned (.tuple #[])) ((d.drewN m).setCell ⟨g,st,none⟩ (.int .i32 q))):=fun m=>(V D _ (x0k ⟨m,rfl⟩)).2;go_region;go_wp2;go_end0;exact V f _
namespace Nm
variable {cl:Int->Int} {cp:Int->Int->Int×Bool}
end Nm
theorem z8A(n:Nat) w B(l:B<=w.heap.size)(E:n<=3000000):∃W,(Instr.makeSlice 40 (.int .i64 0) (.int .i64 (n:Int))).run prog w=.ok (.slice (some ⟨w.heap.size,0,none⟩) 0 n) W/\Ok .i32 21 W B (.slice (some ⟨w.heap.size,0,none⟩) 0 n) []/\w.grownBy W none:=by
 obtain⟨r,hi,p,i,f⟩:=info_parts y2k;obtain⟨W,Z,D,R⟩:=run_make_own (P:=prog) w B 40 21 r (.int .i32 0) 1 underlying40 hi p i .i64 .i64 n V8s T7W l;exact E5g
theorem y4N{p cl cp w}(y:NmC p cl cp w){xv X}(J:Sk .i32 w xv X)(j:X.length<=3000000):Calls prog 30 #[.pointer (some ⟨p,0,none⟩),xv] w (x0j w (Nm.cps cl cp X)):=by
 have B:Hid (∀(k:Nat),k<X.length->∃b P M,xv=.slice (some ⟨b,P,none⟩) X.length M/\∀W,Bw w W->W.cell? ⟨b,P+k,none⟩=some (.int .i32 (X.getD k 0))):=fun k G=>U0t
 have KT:Hid (∀k L wr,k<X.length->Bw w wr->LdS cl wr w.heap.size L (Nm.run cl cp (X.take k))->Calls prog 57 #[.pointer (some ⟨L,0,none⟩),.pointer (some ⟨p,0,none⟩),.int .i32 (X.getD k 0)] wr (LayB cl w.heap.size L wr (Nm.run cl cp (X.take (k+1))))):=fun k L wr G Q F=>by
  rw[Nm.z2X G];have hi:=Nm.z0e (cl:=cl) (cp:=cp) (X.take k);have:=hi.2;rw[List.length_take]at this;exact z9J y Q hi.1 F _ (x1d J G) f6J
 obtain⟨H,E,o,q⟩:=z8A X.length w w.heap.size (l0r _) j;have A:Bw w H:=(b0r).grown q (l0r _) (fun k G=>g6F);have ae:=A.size
 have l:Hid (LdS cl (H.alloc (.cells #[.slice (some ⟨w.heap.size,0,none⟩) 0 X.length,.int .i64 (-1),.int .i64 (-1)] 102)) w.heap.size H.heap.size (Nm.run cl cp (X.take 0))):=by
  refine⟨.slice (some ⟨w.heap.size,0,none⟩) 0 X.length,?_,x2m o _,ae⟩;show(H.heap.push _)[H.heap.size]?=_;rw[List.take_zero];simp;exact⟨rfl,rfl⟩
 have t:Hid (Bw w (H.alloc (.cells #[.slice (some ⟨w.heap.size,0,none⟩) 0 X.length,.int .i64 (-1),.int .i64 (-1)] 102))):=A.alloc ae _
 have C:Hid (∀L wr,LdS cl wr w.heap.size L (Nm.run cl cp (X.take X.length))->Bw w wr->∃v,wr.cell? ⟨L,0,none⟩=some v/\(∃R n M,v=.slice R n M)/\x0j w (Nm.cps cl cp X) (.returned v) wr):=fun L wr h Q=>by
  rw[List.take_length]at h;obtain⟨v,Z,D,_⟩:=h;obtain⟨R,M,e,_,_⟩:=D.sk.shape;exact⟨v,Z.c0,⟨R,_,M,e⟩,v,rfl,D,Q⟩
 obtain⟨R,M,rfl,_,_⟩:=J.shape;clear y J o q A;generalize Nm.cps cl cp X=out at *;go_enter func30,ntmps30;go_wp2;generalize hLe:H.heap.size=L at *;clear hLe;go_loopw[7,14] (fun _ S wr=>∃k:Nat,S=.int .i64 k/\k<=X.length/\LdS cl wr w.heap.size L (Nm.run cl cp (X.take k))/\Bw w wr) (fun _ S _=>X.length-(intOf S).toNat)
 case atStart=>exact⟨0,rfl,f6J,V l,V t⟩
 case round =>
  obtain⟨k,rfl,G,F,r⟩:=hrel;clear l t E;by_cases ab:k<X.length
  ·have hL:(k:Int)<X.length:=f6J;obtain⟨b,P,g,d,a⟩:=V B k ab;simp only[Value.slice.injEq]at d;obtain⟨rfl,-,rfl⟩:=d;have x:=a wr r;have K:=O (V KT k L wr ab r F);have N:=O r;have i:Hid (∀W,LdS cl W w.heap.size L (Nm.run cl cp (X.take (k+1)))->Bw w W->∃n:Nat,Value.int .i64 ((k:Int)+1)=.int .i64 (n:Int)/\n<=X.length/\LdS cl W w.heap.size L (Nm.run cl cp (X.take n))/\Bw w W):=fun W Z D=>⟨k+1,g2A,f6J,Z,D⟩;clear F a r B KT C;generalize Nm.run cl cp (X.take (k+1))=s2,X.getD k 0=c at *;go_wp2_with fail;refine(V K).mono ?_;rintro e I ⟨rfl,Z,D⟩;have Y:=O (V i I Z ((V N).trans D));clear K N i Z D x;go_wp2
   go_roundw
   case rel=>exact V Y
   case measure=>exact g7T
  ·have f:k=X.length:=f6J;subst f;obtain⟨v,u,⟨m,z,af,rfl⟩,hF⟩:=V C L wr F r;have Y:=O hF;clear F r B KT C hF;go_wp2;go_ret;exact V Y
def NfdC(p:Nat)(nf:List Int->List Int)(w0:World):Prop:=(∀X,(nf X).length<=32*X.length)/\∀xv X W,Below w0.heap.size w0 W->Sk .i32 W xv X->X.length<=65536->Calls prog 29 #[.pointer (some ⟨p,0,none⟩),xv] W (fun e w'=>∃v,e=.returned (.tuple #[v,.int .i64 0])/\Ok .i32 21 w' W.heap.size v (nf X)/\Below W.heap.size W w')
theorem NmC.on{p cl cp w W}(h:NmC p cl cp w)(Q:Bw w W):NmC p cl cp W:=⟨h.cr,h.pr,fun c T A U=>h.c c T A (x0b Q U),fun a b H B A U=>h.k a b H B A (x0b Q U)⟩
theorem z8H{p cl cp nf}{w}(y:NmC p cl cp w)(N:NfdC p nf w){xv X}(J:Sk .i32 w xv X)(j:X.length<=65536):Calls prog 15 #[.pointer (some ⟨p,0,none⟩),xv] w (fun e w'=>∃v,e=.returned (.tuple #[v,.int .i64 0])/\Ok .i32 21 w' w.heap.size v (Nm.cps cl cp (nf X))/\Bw w w'):=by
 have K:=O (N.2 xv X w (b0r) J j);have i:=N.1 X;have C:Hid (∀W f,Bw w W->Sk .i32 W f (nf X)->Calls prog 30 #[.pointer (some ⟨p,0,none⟩),f] W (x0j W (Nm.cps cl cp (nf X)))):=fun W f U Q=>y4N (y.on U) Q f6J;obtain⟨R,M,rfl,_,_⟩:=J.shape;clear y N J;generalize Nm.cps cl cp (nf X)=out at *;generalize nf X=Y at *;go_enter func15,ntmps15;go_wp2_with fail;refine(V K).mono ?_;rintro e I ⟨u,rfl,A,b1⟩;have g:=O (V C I u b1 A.sk);obtain⟨D,B,r,_,_⟩:=A.sk.shape;subst r;have t:=O b1;have a:=b1.size;clear K C A b1;go_wp2_with fail;refine(V g).mono ?_;rintro e d ⟨S,rfl,G,H⟩;obtain⟨m,F,s,_,_⟩:=G.sk.shape;subst s;have P:Hid (Ok .i32 21 d w.heap.size (.slice m out.length F) out/\Bw w d):=⟨G.lower a,x0b (V t) H⟩;clear g G H t;go_wp2;go_ret2;exact⟨_,rfl,V P⟩
theorem isN18{p cl cp nf}{w}(y:NmC p cl cp w)(N:NfdC p nf w){xv X}(J:Sk .i32 w xv X)(j:X.length<=65536):Calls prog 204 #[.pointer (some ⟨p,0,none⟩),xv] w (fun e w'=>e=.returned (.tuple #[.bool (decide (X=Nm.cps cl cp (nf X))),.int .i64 0])/\Bw w w'):=by
 have K:=O (z8H y N J j);have b:Hid (∀W f,Bw w W->Sk .i32 W f (Nm.cps cl cp (nf X))->Calls prog 31 #[xv,f] W (x0c W (decide (X=Nm.cps cl cp (nf X))))):=fun W f U s=>(y3u xv f X _ W (J.below U) s).mono fun _ _ h=>⟨h.1,x0k h.2⟩;obtain⟨R,M,rfl,_,_⟩:=J.shape;clear y N J;generalize Nm.cps cl cp (nf X)=out at *;generalize decide (X=out)=E at *;go_enter func204,ntmps204;go_wp2_with fail;refine(V K).mono ?_;rintro e I ⟨u,rfl,A,b1⟩;have g:=O (V b I u b1 A.sk);obtain⟨D,B,r,_,_⟩:=A.sk.shape;subst r;have t:=O b1;clear K b A b1;go_wp2_with fail;refine c0m g fun d m=>?_;have Y:=O (x0b (V t) m);clear g t m;go_wp2;go_ret2;exact⟨rfl,V Y⟩
