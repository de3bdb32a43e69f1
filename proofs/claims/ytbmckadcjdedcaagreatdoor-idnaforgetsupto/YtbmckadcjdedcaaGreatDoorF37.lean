import Derived.Test.YtbmckadcjdedcaaGreatDoorF36
import Derived.Deep.DeepCutAuto
import Derived.Deep.CutBlock
import Derived.Lib.MinMaxS
import Derived.Laws.MakeOwn
set_option maxHeartbeats 4000000
set_option maxRecDepth 8000
namespace Go.Proofs.YtbmckadcjdedcaaGreatDoor
open Go.Proofs.Tryz
open Go.RowKit
section
variable{p:Prop}
theorem n4B(h:p:=by unfold LdAt at *;rw[x0f h];rfl):p:=h
theorem P2z(h:p:=by generalize s.1=out at *;go_enter func101,ntmps101;go_wp2_with(at_builtin;refine y3p rfl (.tmp 32) (.tmp 34) rfl B _ _ out [c] rfl rfl (x2p (V S) _) (y0H _ M7L c (V HC)) (by first| omega|(simp;omega)) T7G ?_);intro E l H p;obtain⟨g1,I⟩:=V d _ l (V N) (V S) (V U) _ E H p;have P:=g1.c0;have f:=g1.fz 0;have T:=O I;obtain⟨ab,J,b,_,_⟩:=H.sk.shape;subst b;rw[(M7L:(out++[c]).length=out.length+1)]at T;go_wp2;go_end0;exact V T):p:=h
theorem T7G(h:p:=by rw[x0y];exact f6J):p:=h
end
namespace Nm
variable {cl:Int->Int} {cp:Int->Int->Int×Bool}
def hgh(cl:Int->Int):List Int->Int
 | []=>-1
 | c::l=>max (cl c) (hgh cl l)
def blk(cl:Int->Int)(l:List Int)(k:Int):Bool:=l.any fun c=>decide (k<=cl c)
theorem z4N l{k}(G:0<=k):blk cl l k=decide (k<=hgh cl l):=by
 unfold blk
 induction l with
 | nil=>rw[hgh,d0f f6J];rfl
 | cons c l ih =>
  rw[List.any_cons,ih,hgh];by_cases Z:k<=cl c
  ·grind
  ·grind
theorem z2c l c:hgh cl (l++[c])=max (hgh cl l) (max (cl c) (-1)):=by
 induction l with
 | nil=>show max (cl c) (-1)=max (-1) (max (cl c) (-1));omega
 | cons d l ih=>rw[List.cons_append,hgh,ih,hgh];omega
theorem y8B l:-1<=hgh cl l:=by
 cases l with
 | nil=>exact Int.le_refl _
 | cons c l=>rw[hgh];have:=y8B l;omega
theorem z3N{M:Int}(C:∀c,cl c<=M)(A:-1<=M) l:hgh cl l<=M:=by
 induction l with
 | nil=>exact A
 | cons c l ih=>rw[hgh];have:=C c;omega
def bhd(s:List Int×Int):List Int:=s.1.drop (s.2+1).toNat
def fits(cl:Int->Int)(cp:Int->Int->Int×Bool)(s:List Int×Int)(c:Int):Bool:=decide (0<=s.2)&&(!(blk cl (bhd s) (cl c))&&(cp (s.1.getD s.2.toNat 0) c).2)
def stp(cl:Int->Int)(cp:Int->Int->Int×Bool)(s:List Int×Int)(c:Int):List Int×Int:=if fits cl cp s c=true then(s.1.set s.2.toNat (cp (s.1.getD s.2.toNat 0) c).1,s.2)else(s.1++[c],if cl c=0 then(s.1.length:Int)else s.2)
def run(cl:Int->Int)(cp:Int->Int->Int×Bool)(X:List Int):List Int×Int:=X.foldl (stp cl cp) ([],-1)
def cps(cl:Int->Int)(cp:Int->Int->Int×Bool)(X:List Int):List Int:=(run cl cp X).1
theorem x9K X c:run cl cp (X++[c])=stp cl cp (run cl cp X) c:=by
 unfold run;rw[List.foldl_append];rfl
theorem z3c{X:List Int}{k}(h:k<X.length):run cl cp (X.take (k+1))=stp cl cp (run cl cp (X.take k)) (X.getD k 0):=by
 rw[List.take_add_one,<- x9K];exact p8I
def In(s:List Int×Int):Prop:=-1<=s.2/\s.2<s.1.length
theorem z4i{s}(h:In s) c:In (stp cl cp s c)/\(stp cl cp s c).1.length<=s.1.length+1:=by
 unfold In at *;unfold stp;split
 ·exact f4R
 ·simp;exact G7o
theorem z4g X:In (run cl cp X)/\(run cl cp X).1.length<=X.length:=by
 obtain⟨M,rfl⟩:∃M:List Int,X=M.reverse:=⟨X.reverse,by rw[List.reverse_reverse]⟩
 induction M with
 | nil=>exact⟨⟨Int.le_refl _,(e8M:(-1:Int)<0)⟩,l0r _⟩
 | cons c l ih =>
  rw[List.reverse_cons,x9K];have h:=z4i (cl:=cl) (cp:=cp) ih.1 c;refine⟨h.1,?_⟩;rw[List.length_append];have:=h.2;have:=ih.2;simp only[List.length_cons,List.length_nil];omega
theorem hgh_fit s p:bhd (s.1.set s.2.toNat p,s.2)=bhd s\/s.2<0:=by
 by_cases A:s.2<0
 ·exact .inr A
 ·refine .inl ?_;unfold bhd;rw[List.drop_set_of_lt];omega
theorem y8D(s:List Int×Int) c:bhd (s.1++[c],(s.1.length:Int))=[]:=by
 unfold bhd;rw[List.drop_eq_nil_iff];simp
theorem y8C{s}(h:In s) c:bhd (s.1++[c],s.2)=bhd s++[c]:=by
 unfold bhd;obtain⟨Z,D⟩:=h;rw[List.drop_append_of_le_length];show(s.2+1).toNat<=s.1.length;omega
end Nm
def LdAt(w:World)(L:Nat)(v:Value)(st hi:Int):Prop:=w.heap[L]?=some (.cells #[v,.int .i64 st,.int .i64 hi] 102 (0,0))
section
variable {w:World} {L:Nat} {v:Value} {st hi:Int}
theorem LdAt.c0(h:LdAt w L v st hi):w.cell? ⟨L,0,none⟩=some v:=cell_of (j:=0) h T7b
theorem LdAt.c1(h:LdAt w L v st hi):w.cell? ⟨L,1,none⟩=some (.int .i64 st):=cell_of (j:=1) h f2O
theorem LdAt.c2(h:LdAt w L v st hi):w.cell? ⟨L,2,none⟩=some (.int .i64 hi):=cell_of (j:=2) h U4t
theorem LdAt.fz(h:LdAt w L v st hi) j:w.frozen? ⟨L,j,none⟩=false:=x0e h
theorem LdAt.lt(h:LdAt w L v st hi):L<w.heap.size:=x0a h.c0
theorem LdAt.below{w'}(h:LdAt w L v st hi)(Y:Bw w w'):LdAt w' L v st hi:=by
 unfold LdAt at *;rw[Y.block L (LdAt.lt h)];exact h
theorem LdAt.set0(h:LdAt w L v st hi) x:LdAt (w.setCell ⟨L,0,none⟩ x) L x st hi:=n4B
theorem LdAt.set1(h:LdAt w L v st hi) x:LdAt (w.setCell ⟨L,1,none⟩ (.int .i64 x)) L v x hi:=n4B
theorem LdAt.set2(h:LdAt w L v st hi) x:LdAt (w.setCell ⟨L,2,none⟩ (.int .i64 x)) L v st x:=n4B
theorem LdAt.apart(h:LdAt w L v st hi){B n u us}(y:w.ownsRow B 21 1 u n us):u.ownBlock≠some L:=by
 intro e;rcases y.2 with⟨rfl,_⟩|⟨g,M,T,rfl,_,C,_⟩
 ·cases e
 ·simp[Value.ownBlock]at e;subst e;unfold LdAt at h;rw[C]at h;simp at h
theorem LdAt.grown{w'}(h:LdAt w L v st hi){B n u us}(y:w.ownsRow B 21 1 u n us)(C:w.grownBy w' u.ownBlock):LdAt w' L v st hi:=by
 have g:=h.apart y;unfold LdAt at *;rw[C.block L (LdAt.lt h) (fun e=>g e.symm)];exact h
theorem LdAt.ok{j B x u zs}(h:LdAt w L v st hi)(y:Ok .i32 21 w B u zs):Ok .i32 21 (w.setCell ⟨L,j,none⟩ x) B u zs:=by
 refine⟨y.1,y.2.1,x0x y.2.2 fun g C=>?_⟩;exact x0g _ (fun e=>h.apart y.2.2 (by rw[<- e];exact C))
end
theorem z1s{w L v st hi}(h:LdAt w L v st hi) k:Calls prog 99 #[.pointer (some ⟨L,0,none⟩),.int .i64 k] w (fun e w'=>e=.returned (.bool (decide (k<=hi)))/\w'=w):=by
 have K:=h.c2;go_enter func99,ntmps99;exact t6u
def LdS(cl:Int->Int)(w:World)(B L:Nat)(s:List Int×Int):Prop:=∃v,LdAt w L v s.2 (Nm.hgh cl (Nm.bhd s))/\Ok .i32 21 w B v s.1/\B<=L
def LayB(cl:Int->Int)(B L:Nat)(w:World)(s:List Int×Int)(e:Ending)(w':World):Prop:=e=.returned (.tuple #[])/\LdS cl w' B L s/\Below B w w'
theorem y0H(w:World){n}(E:n=w.heap.size) c(h:Rune c):Sk .i32 (w.alloc (.cells #[.int .i32 c] 21)) (.slice (some ⟨n,0,none⟩) 1 1) [c]:=by
 subst E;exact lit15 w [c] 1 rfl f6J f6J _ rfl (fun z o=>(by simpa using o:z=c) ▸ h)
theorem lay18{cl}(t:∀c,0<=cl c/\cl c<=254){w B L s}(X:Nm.In s)(z:LdS cl w B L s) c(hc:Rune c)(hl:s.1.length<=10000000):Calls prog 101 #[.pointer (some ⟨L,0,none⟩),.int .i32 c,.int .i64 (cl c)] w (LayB cl B L w (s.1++[c],if cl c=0 then(s.1.length:Int)else s.2)):=by
 obtain⟨v,r,hO,C⟩:=z;have m:=r.lt;obtain⟨R,M,hv,ae,af⟩:=hO.sk.shape;subst hv;have c0:=r.c0;have c1:=r.c1;have K:=r.c2;have u:=r.fz 0;have y:=r.fz 1;have f2:=r.fz 2;have HC:=O hc;have G:=t c;have Y:=Nm.y8B (cl:=cl) (Nm.bhd s);have a:=Nm.z3N (cl:=cl) (fun c=>(t c).2) f6J (Nm.bhd s);by_cases hz:cl c=0
 ·rw[if_pos hz,hz];have N:=O ((r.set1 (s.1.length:Int)).set2 (-1));have g:=(r.set1 (s.1.length:Int)).c2;have d2:=(r.set1 (s.1.length:Int)).fz 2;have Q:=(V N).c0;have S:=O ((r.set1 (s.1.length:Int)).ok (j:=2) (x:=.int .i64 (-1)) (r.ok (j:=1) (x:=.int .i64 (s.1.length:Int)) hO));have U:Hid (Below B w ((w.setCell ⟨L,1,none⟩ (.int .i64 (s.1.length:Int))).setCell ⟨L,2,none⟩ (.int .i64 (-1)))):=x0d (x0d (Below.refl B w) C _) C _
  have d:Hid (∀W A,LdAt W L (.slice R s.1.length M) (s.1.length:Int) (-1)->Ok .i32 21 W B (.slice R s.1.length M) s.1->Below B w W->∀o E,Ok .i32 21 A B E (s.1++[c])->(W.alloc o).grownBy A (Value.slice R s.1.length M).ownBlock->LdAt A L (.slice R s.1.length M) (s.1.length:Int) (-1)/\LayB cl B L w (s.1++[c],(s.1.length:Int)) (.returned (.tuple #[])) (A.setCell ⟨L,0,none⟩ E)):=fun W A Z D h3 o E H p=>by
   have F:=(Z.below ((Below.refl W.heap.size W).alloc (l0r _) o)).grown (x2p D o).2.2 p;have q:=h3.size;refine⟨F,rfl,⟨E,?_,F.ok H,C⟩,x0d ((h3.alloc f6J o).grown p T7G (fun k G=>(D.2.2.lt k G).1)) C _⟩;show LdAt _ L E (s.1.length:Int) (Nm.hgh cl (Nm.bhd (s.1++[c],(s.1.length:Int))));rw[Nm.y8D];exact F.set0 E
  have q:=(V U).size;have i:B<=w.heap.size:=f6J;exact P2z
 ·rw[if_neg hz];have N:=O (r.set2 (max (Nm.hgh cl (Nm.bhd s)) (cl c)));have Q:=(V N).c0;have S:=O (r.ok (j:=2) (x:=.int .i64 (max (Nm.hgh cl (Nm.bhd s)) (cl c))) hO);have U:Hid (Below B w (w.setCell ⟨L,2,none⟩ (.int .i64 (max (Nm.hgh cl (Nm.bhd s)) (cl c))))):=x0d (Below.refl B w) C _
  have d:Hid (∀W A,LdAt W L (.slice R s.1.length M) s.2 (max (Nm.hgh cl (Nm.bhd s)) (cl c))->Ok .i32 21 W B (.slice R s.1.length M) s.1->Below B w W->∀o E,Ok .i32 21 A B E (s.1++[c])->(W.alloc o).grownBy A (Value.slice R s.1.length M).ownBlock->LdAt A L (.slice R s.1.length M) s.2 (max (Nm.hgh cl (Nm.bhd s)) (cl c))/\LayB cl B L w (s.1++[c],s.2) (.returned (.tuple #[])) (A.setCell ⟨L,0,none⟩ E)):=fun W A Z D h3 o E H p=>by
   have F:=(Z.below ((Below.refl W.heap.size W).alloc (l0r _) o)).grown (x2p D o).2.2 p;have q:=h3.size;refine⟨F,rfl,⟨E,?_,F.ok H,C⟩,x0d ((h3.alloc f6J o).grown p T7G (fun k G=>(D.2.2.lt k G).1)) C _⟩;show LdAt _ L E s.2 (Nm.hgh cl (Nm.bhd (s.1++[c],s.2)));rw[Nm.y8C X,Nm.z2c,(f6J:max (Nm.hgh cl (Nm.bhd s)) (max (cl c) (-1))=max (Nm.hgh cl (Nm.bhd s)) (cl c))];exact F.set0 E
  have q:=(V U).size;have i:B<=w.heap.size:=f6J;have ag:(cl c==0)=false:=(by grind);exact P2z
theorem Ok.setAt18{K e w B g n cap}{zs}(h:Ok K e w B (.slice (some ⟨g,0,none⟩) n cap) zs) k z(o:Fit K [z]) :
  Ok K e (w.setCell ⟨g,k,none⟩ (.int K z)) B (.slice (some ⟨g,0,none⟩) n cap) (zs.set k z)/\w.frozen? ⟨g,k,none⟩=false:=by
 have C:=h.row;rcases C.2 with⟨A,_⟩|⟨S,J,T,N,Y,a,E,t,q,Q⟩
 ·cases A
 ·exact R3Y
theorem LdS.below{cl w w' B L s}(h:LdS cl w B L s)(Y:Bw w w'):LdS cl w' B L s:=by
 obtain⟨v,Z,D,R⟩:=h;exact⟨v,Z.below Y,D.below Y,R⟩
structure NmC(p:Nat)(cl:Int->Int)(cp:Int->Int->Int×Bool)(w0:World):Prop where
 cr:∀c,0<=cl c/\cl c<=254
 pr:∀a b,Rune a->Rune b->Rune (cp a b).1
 c:∀c,Rune c->∀W,Below w0.heap.size w0 W->Calls prog 98 #[.pointer (some ⟨p,0,none⟩),.int .i32 c] W (IntB W (cl c))
 k:∀a b,Rune a->Rune b->∀W,Below w0.heap.size w0 W->Calls prog 100 #[.pointer (some ⟨p,0,none⟩),.int .i32 a,.int .i32 b] W (fun e w'=>e=.returned (.tuple #[.int .i32 (cp a b).1,.bool (cp a b).2])/\w'=W)
theorem z9I{p cl cp w0}(r:NmC p cl cp w0){w L s}(Y:Bw w0 w)(X:Nm.In s)(hS:LdS cl w w0.heap.size L s) c(hc:Rune c)(hl:s.1.length<=10000000):Calls prog 57 #[.pointer (some ⟨L,0,none⟩),.pointer (some ⟨p,0,none⟩),.int .i32 c] w (LayB cl w0.heap.size L w (Nm.stp cl cp s c)):=by
 have KC:=O (r.c c hc w Y);have aj:=r.cr c;have I:=Y.size;have KL:Hid (∀W,Bw w W->Calls prog 101 #[.pointer (some ⟨L,0,none⟩),.int .i32 c,.int .i64 (cl c)] W (LayB cl w0.heap.size L w (s.1++[c],if cl c=0 then(s.1.length:Int)else s.2))):=fun W t=>(lay18 r.cr X (hS.below t) c hc hl).mono fun e l h=>⟨h.1,h.2.1,(t.mono I).trans h.2.2⟩;have aw:=Nm.y8B (cl:=cl) (Nm.bhd s);have ay:=Nm.z3N (cl:=cl) (fun c=>(r.cr c).2) f6J (Nm.bhd s);have N:=X.1;have S:=X.2;by_cases h0:s.2<0
 ·have i:s.2=-1:=by omega
  have J:Nm.stp cl cp s c=(s.1++[c],if cl c=0 then(s.1.length:Int)else s.2):=by
   unfold Nm.stp Nm.fits;rw[d0f f6J];rfl
  have ab:Hid (∀W,Bw w W->W.cell? ⟨L,1,none⟩=some (.int .i64 (-1))):=fun W t=>by
   obtain⟨v,Z,_,_⟩:=hS.below t;rw[<- i];exact Z.c1
  rw[J];generalize(s.1++[c],if cl c=0 then(s.1.length:Int)else s.2)=s2 at *;go_enter func57,ntmps57;go_wp2_with fail;refine c0m KC fun Q b1=>?_;have u:=V ab Q b1;have o:=O (V KL Q b1);go_wp2_with fail;refine(V o).mono ?_;rintro e d D;obtain⟨rfl,D⟩:=D;have T:=O D;go_wp2;go_end0;exact⟨rfl,V T⟩
 ·obtain⟨st,J⟩:∃st:Nat,s.2=(st:Int):=⟨s.2.toNat,f6J⟩;have E:st<s.1.length:=f6J;have j:s.2.toNat=st:=f6J;obtain⟨v0,ag,A,ai⟩:=hS;obtain⟨g,M,hv,ar,aq⟩:=y9E A.row f6J;subst hv;have P:w0.heap.size<=g:=(A.2.2.lt g V3M).1;have HA:Hid (∀W,Bw w W->LdAt W L (.slice (some ⟨g,0,none⟩) s.1.length M) (st:Int) (Nm.hgh cl (Nm.bhd s))/\Ok .i32 21 W w0.heap.size (.slice (some ⟨g,0,none⟩) s.1.length M) s.1):=fun W t=>⟨J ▸ ag.below t,A.below t⟩;have B:Rune (s.1.getD st 0):=x1c A.sk E
  have K:Hid (∀W,Bw w W->W.cell? ⟨g,st,none⟩=some (.int .i32 (s.1.getD st 0))):=fun W t=>by
   obtain⟨b3,o3,q3,e3,_,_,R⟩:=(A.below t).sk.place f6J;simp only[Value.slice.injEq,Option.some.injEq,Addr.mk.injEq]at e3;obtain⟨⟨rfl,rfl,_⟩,_,_⟩:=e3;have h4:=R st E;rwa [Nat.zero_add]at h4
  have U:Hid (∀W,Bw w W->Calls prog 100 #[.pointer (some ⟨p,0,none⟩),.int .i32 (s.1.getD st 0),.int .i32 c] W (fun e l=>e=.returned (.tuple #[.int .i32 (cp (s.1.getD st 0) c).1,.bool (cp (s.1.getD st 0) c).2])/\l=W)):=fun W t=>r.k _ _ B hc W (x0b Y t);have F:=O (r.pr _ _ B hc)
  have G:Hid ((Nm.blk cl (Nm.bhd s) (cl c)=true\/(cp (s.1.getD st 0) c).2=false)->Nm.stp cl cp s c=(s.1++[c],if cl c=0 then(s.1.length:Int)else s.2)):=fun h=>by
   unfold Nm.stp Nm.fits;rw[j];rcases h with h|h<;>rw[h]<;>simp
  have ae:Hid (Nm.blk cl (Nm.bhd s) (cl c)=false->(cp (s.1.getD st 0) c).2=true->Nm.stp cl cp s c=(s.1.set st (cp (s.1.getD st 0) c).1,s.2)):=fun Z D=>by
   unfold Nm.stp Nm.fits;rw[j,Z,D,d0t f6J];rfl
  have x:Hid (∀q,Nm.bhd (s.1.set st q,s.2)=Nm.bhd s):=fun q=>by
   rcases Nm.hgh_fit s q with h|h
   ·rw[j]at h;exact h
   ·omega
  have af:=O (Nm.z4N (cl:=cl) (Nm.bhd s) aj.1)
  have KB:Hid (∀W,Bw w W->Calls prog 99 #[.pointer (some ⟨L,0,none⟩),.int .i64 (cl c)] W (fun e l=>e=.returned (.bool (Nm.blk cl (Nm.bhd s) (cl c)))/\l=W)):=fun W t=>by
   have:=z1s (V HA W t).1 (cl c);rw[<- V af]at this;exact this
  have b:Hid (∀q W,Rune q->Bw w W->W.frozen? ⟨g,st,none⟩=false/\LayB cl w0.heap.size L w (s.1.set st q,s.2) (.returned (.tuple #[])) (W.setCell ⟨g,st,none⟩ (.int .i32 q))):=fun q W hq t=>by
   obtain⟨a1,a2⟩:=V HA W t;obtain⟨o1,y⟩:=a2.setAt18 st q (fun z hz=>by rw[List.mem_singleton]at hz;rw[hz];exact x0T hq);refine⟨y,rfl,⟨.slice (some ⟨g,0,none⟩) s.1.length M,?_,o1,ai⟩,x0d (t.mono I) P _⟩;show LdAt _ L _ s.2 (Nm.hgh cl (Nm.bhd (s.1.set st q,s.2)));rw[V x q,J];have am:L≠g:=fun e=>a1.apart a2.2.2 (by rw[e];rfl);unfold LdAt;rw[x0g _ am];exact a1
  generalize Nm.blk cl (Nm.bhd s) (cl c)=bk,(s.1++[c],if cl c=0 then(s.1.length:Int)else s.2)=s2 at *;have ab:Hid (∀W,Bw w W->W.cell? ⟨L,1,none⟩=some (.int .i64 (st:Int))/\W.cell? ⟨L,0,none⟩=some (.slice (some ⟨g,0,none⟩) s.1.length M)):=fun W t=>⟨(V HA W t).1.c1,(V HA W t).1.c0⟩;generalize cl c=k at *
  cases bk with
  | true =>
   rw[V G (.inl rfl)];go_enter func57,ntmps57;go_wp2_with fail;refine c0m KC fun Q b1=>?_;obtain⟨u,x0⟩:=V ab Q b1;have H:=O (V KB Q b1);have o:=O (V KL Q b1);go_wp2_with fail;refine(V H).mono ?_;rintro e d ⟨rfl,rfl⟩;go_wp2_with fail;refine(V o).mono ?_;rintro e w3 R;obtain⟨rfl,R⟩:=R;have T:=O R;go_wp2;go_end0;exact⟨rfl,V T⟩
  | false =>
   go_enter func57,ntmps57;go_wp2_with fail;refine c0m KC fun Q b1=>?_;obtain⟨u,x0⟩:=V ab Q b1;have x3:=V K Q b1;have H:=O (V KB Q b1);have o:Hid (∀m:Nat,Calls prog 101 #[.pointer (some ⟨L,0,none⟩),.int .i32 c,.int .i64 k] (Q.drewN m) (LayB cl w0.heap.size L w s2)):=fun m=>V KL _ (x0b b1 (x0k ⟨m,rfl⟩));have K3:=fun m:Nat=>O (V U (Q.drewN m) (x0b b1 (x0k ⟨m,rfl⟩)));have C:Hid (∀W,Bw Q W->W.frozen? ⟨g,st,none⟩=false/\LayB cl w0.heap.size L w (s.1.set st (cp (s.1.getD st 0) c).1,s.2) (.returned (.tuple #[])) (W.setCell ⟨g,st,none⟩ (.int .i32 (cp (s.1.getD st 0) c).1))):=fun W t=>V b _ W (V F) (x0b b1 t);generalize(s.1.set st (cp (s.1.getD st 0) c).1,s.2)=s3 at *;generalize(cp (s.1.getD st 0) c).1=q at *;generalize(cp (s.1.getD st 0) c).2=ok at *;generalize s.1.getD st 0=a at *;generalize Nm.stp cl cp s c=s4,s.1.length=n at *;go_wp2_with fail;refine(V H).mono ?_;rintro e d ⟨rfl,rfl⟩
   cases ok with
   | false =>
    obtain rfl:s4=s2:=V G M7L;go_wp2;go_quiet(first| (go_at_call 100;exact Calls.quiet_of_same (V (K3 _))));go_wp2_with fail;refine(V o _).mono ?_;rintro e w3 R;obtain⟨rfl,R⟩:=R;have T:=O R;go_wp2;go_end0;exact i5v
   | true =>
    obtain rfl:s4=s3:=V ae M7L M7L;go_wp2;go_quiet(first| (go_at_call 100;exact Calls.quiet_of_same (V (K3 _))));go_wp2;have f3:=(V C d (b0r)).1;have f:Hid (∀m:Nat,LayB cl w0.heap.size L w s4 (.returned (.tuple #[])) ((d.drewN m).setCell ⟨g,st,none⟩ (.int .i32 q))):=fun m=>(V C _ (x0k ⟨m,rfl⟩)).2;go_region;go_wp2;go_end0;exact V f _
namespace Nm
variable {cl:Int->Int} {cp:Int->Int->Int×Bool}
end Nm
theorem z8A(n:Nat) w B(l:B<=w.heap.size)(E:n<=3000000):∃W,(Instr.makeSlice 40 (.int .i64 0) (.int .i64 (n:Int))).run prog w=.ok (.slice (some ⟨w.heap.size,0,none⟩) 0 n) W/\Ok .i32 21 W B (.slice (some ⟨w.heap.size,0,none⟩) 0 n) []/\w.grownBy W none:=by
 obtain⟨i,hi,f,p,t⟩:=info_parts y2s;obtain⟨W,Z,D,R⟩:=run_make_own (P:=prog) w B 40 21 i (.int .i32 0) 1 underlying40 hi f p .i64 .i64 n n4Q T7W l;exact E5g
theorem y4Z{p cl cp w}(r:NmC p cl cp w){xv X}(J:Sk .i32 w xv X)(ab:X.length<=3000000):Calls prog 30 #[.pointer (some ⟨p,0,none⟩),xv] w (x0j w (Nm.cps cl cp X)):=by
 have C:Hid (∀(k:Nat),k<X.length->∃b P M,xv=.slice (some ⟨b,P,none⟩) X.length M/\∀W,Bw w W->W.cell? ⟨b,P+k,none⟩=some (.int .i32 (X.getD k 0))):=fun k G=>by
  obtain⟨b,P,M,q,_,_,I⟩:=J.place f6J;exact⟨b,P,M,q,fun W t=>v9g⟩
 have F:Hid (∀k L wr,k<X.length->Bw w wr->LdS cl wr w.heap.size L (Nm.run cl cp (X.take k))->Calls prog 57 #[.pointer (some ⟨L,0,none⟩),.pointer (some ⟨p,0,none⟩),.int .i32 (X.getD k 0)] wr (LayB cl w.heap.size L wr (Nm.run cl cp (X.take (k+1))))):=fun k L wr G s z=>by
  rw[Nm.z3c G];have hi:=Nm.z4g (cl:=cl) (cp:=cp) (X.take k);have:=hi.2;rw[List.length_take]at this;exact z9I r s hi.1 z _ (x1c J G) f6J
 obtain⟨U,j,x,g0⟩:=z8A X.length w w.heap.size (l0r _) ab;have A:Bw w U:=(b0r).grown g0 (l0r _) (fun k G=>g6z);have o:=A.size
 have E:Hid (LdS cl (U.alloc (.cells #[.slice (some ⟨w.heap.size,0,none⟩) 0 X.length,.int .i64 (-1),.int .i64 (-1)] 102)) w.heap.size U.heap.size (Nm.run cl cp (X.take 0))):=by
  refine⟨.slice (some ⟨w.heap.size,0,none⟩) 0 X.length,?_,x2p x _,o⟩;show(U.heap.push _)[U.heap.size]?=_;rw[List.take_zero];simp;exact⟨rfl,rfl⟩
 have Y:Hid (Bw w (U.alloc (.cells #[.slice (some ⟨w.heap.size,0,none⟩) 0 X.length,.int .i64 (-1),.int .i64 (-1)] 102))):=A.alloc o _
 have d:Hid (∀L wr,LdS cl wr w.heap.size L (Nm.run cl cp (X.take X.length))->Bw w wr->∃v,wr.cell? ⟨L,0,none⟩=some v/\(∃R n M,v=.slice R n M)/\x0j w (Nm.cps cl cp X) (.returned v) wr):=fun L wr h s=>by
  rw[List.take_length]at h;obtain⟨v,Z,D,_⟩:=h;obtain⟨R,M,e,_,_⟩:=D.sk.shape;exact⟨v,Z.c0,⟨R,_,M,e⟩,v,rfl,D,s⟩
 obtain⟨R,M,rfl,_,_⟩:=J.shape;clear r J x g0 A;generalize Nm.cps cl cp X=out at *;go_enter func30,ntmps30;go_wp2;generalize hLe:U.heap.size=L at *;clear hLe;go_loopw[7,14] (fun _ iv wr=>∃k:Nat,iv=.int .i64 k/\k<=X.length/\LdS cl wr w.heap.size L (Nm.run cl cp (X.take k))/\Bw w wr) (fun _ iv _=>X.length-(intOf iv).toNat)
 case atStart=>exact⟨0,rfl,f6J,V E,V Y⟩
 case round =>
  obtain⟨k,rfl,G,z,N⟩:=hrel;clear E Y j;by_cases H:k<X.length
  ·have hL:(k:Int)<X.length:=f6J;obtain⟨b,P,B,q,a⟩:=V C k H;simp only[Value.slice.injEq]at q;obtain⟨rfl,-,rfl⟩:=q;have x4:=a wr N;have K:=O (V F k L wr H N z);have S:=O N;have i:Hid (∀W,LdS cl W w.heap.size L (Nm.run cl cp (X.take (k+1)))->Bw w W->∃n:Nat,Value.int .i64 ((k:Int)+1)=.int .i64 (n:Int)/\n<=X.length/\LdS cl W w.heap.size L (Nm.run cl cp (X.take n))/\Bw w W):=fun W Z D=>⟨k+1,g2A,f6J,Z,D⟩;clear z a N C F d;generalize Nm.run cl cp (X.take (k+1))=s2,X.getD k 0=c at *;go_wp2_with fail;refine(V K).mono ?_;rintro e Q ⟨rfl,Z,D⟩;have T:=O (V i Q Z ((V S).trans D));clear K S i Z D x4;go_wp2
   go_roundw
   case rel=>exact V T
   case measure=>exact g7T
  ·have f:k=X.length:=f6J;subst f;obtain⟨v,u,⟨l,n2,y,rfl⟩,g⟩:=V d L wr z N;have T:=O g;clear z N C F d g;exact v8o
def NfdC(p:Nat)(nf:List Int->List Int)(w0:World):Prop:=(∀X,(nf X).length<=32*X.length)/\∀xv X W,Below w0.heap.size w0 W->Sk .i32 W xv X->X.length<=65536->Calls prog 29 #[.pointer (some ⟨p,0,none⟩),xv] W (fun e w'=>∃v,e=.returned (.tuple #[v,.int .i64 0])/\Ok .i32 21 w' W.heap.size v (nf X)/\Below W.heap.size W w')
theorem NmC.on{p cl cp w W}(h:NmC p cl cp w)(Y:Bw w W):NmC p cl cp W:=⟨h.cr,h.pr,fun c I A t=>h.c c I A (x0b Y t),fun a b g Q A t=>h.k a b g Q A (x0b Y t)⟩
theorem z8G{p cl cp nf}{w}(r:NmC p cl cp w)(g:NfdC p nf w){xv X}(J:Sk .i32 w xv X)(F:X.length<=65536):Calls prog 15 #[.pointer (some ⟨p,0,none⟩),xv] w (fun e w'=>∃v,e=.returned (.tuple #[v,.int .i64 0])/\Ok .i32 21 w' w.heap.size v (Nm.cps cl cp (nf X))/\Bw w w'):=by
 have K:=O (g.2 xv X w (b0r) J F);have c:=g.1 X;have A:Hid (∀W P,Bw w W->Sk .i32 W P (nf X)->Calls prog 30 #[.pointer (some ⟨p,0,none⟩),P] W (x0j W (Nm.cps cl cp (nf X)))):=fun W P t U=>y4Z (r.on t) U f6J;obtain⟨R,M,rfl,_,_⟩:=J.shape;clear r g J;generalize Nm.cps cl cp (nf X)=out at *;generalize nf X=Y at *;go_enter func15,ntmps15;go_wp2_with fail;refine(V K).mono ?_;rintro e Q ⟨N,rfl,G,b1⟩;have o:=O (V A Q N b1 G.sk);obtain⟨I,D,x,_,_⟩:=G.sk.shape;subst x;have B:=O b1;have q:=b1.size;clear K A G b1;go_wp2_with fail;refine(V o).mono ?_;rintro e d ⟨j,rfl,H,m⟩;obtain⟨l,y,E,_,_⟩:=H.sk.shape;subst E;have T:Hid (Ok .i32 21 d w.heap.size (.slice l out.length y) out/\Bw w d):=⟨H.lower q,x0b (V B) m⟩;clear o H m B;go_wp2;go_ret2;exact⟨_,rfl,V T⟩
theorem isN18{p cl cp nf}{w}(r:NmC p cl cp w)(g:NfdC p nf w){xv X}(J:Sk .i32 w xv X)(F:X.length<=65536):Calls prog 204 #[.pointer (some ⟨p,0,none⟩),xv] w (fun e w'=>e=.returned (.tuple #[.bool (decide (X=Nm.cps cl cp (nf X))),.int .i64 0])/\Bw w w'):=by
 have K:=O (z8G r g J F);have E:Hid (∀W P,Bw w W->Sk .i32 W P (Nm.cps cl cp (nf X))->Calls prog 31 #[xv,P] W (x0c W (decide (X=Nm.cps cl cp (nf X))))):=fun W P t U=>(x8P xv P X _ W (J.below t) U).mono fun _ _ h=>⟨h.1,x0k h.2⟩;obtain⟨R,M,rfl,_,_⟩:=J.shape;clear r g J;generalize Nm.cps cl cp (nf X)=out at *;generalize decide (X=out)=C at *;go_enter func204,ntmps204;go_wp2_with fail;refine(V K).mono ?_;rintro e Q ⟨H,rfl,G,b1⟩;have o:=O (V E Q H b1 G.sk);obtain⟨I,D,x,_,_⟩:=G.sk.shape;subst x;have B:=O b1;clear K E G b1;go_wp2_with fail;refine c0m o fun d m=>?_;have T:=O (x0b (V B) m);clear o B m;go_wp2;go_ret2;exact⟨rfl,V T⟩
