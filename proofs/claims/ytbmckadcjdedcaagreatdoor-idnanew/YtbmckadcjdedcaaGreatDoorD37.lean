/- Lc18 Na18 Nb18 Nc18 Nf18 Ng18 Nd18 Ne18 -/
import Derived.Test.YtbmckadcjdedcaaGreatDoorD36
import Derived.Deep.DeepCutAuto
import Derived.Deep.CutBlock
import Derived.Lib.MinMaxS
import Derived.Laws.MakeOwn
set_option maxHeartbeats 4000000
set_option maxRecDepth 8000
namespace Go.Proofs.YtbmckadcjdedcaaGreatDoor
open Go.Proofs.Tryz
open Go.RowKit
section
variable{p:Prop}
theorem n4B(h:p:=by unfold LdAt at *;rw[x0f h];rfl):p:=h
theorem R8K(h:p:=by generalize s.1=out at *;go_enter func101,ntmps101;go_wp2_with(at_builtin;refine y2S rfl (.tmp 32) (.tmp 34) rfl B _ _ out [c] rfl rfl (x2i (V E) _) (y0v _ M7L c (V Y)) (by first| omega|(simp;omega)) N5I ?_);intro a w' H p;obtain⟨i,U⟩:=V ab _ w' (V H1) (V E) (V l) _ a H p;have N:=i.c0;have f:=i.fz 0;have T:=O U;obtain⟨A,J,P,_,_⟩:=H.sk.shape;subst P;rw[(M7L:(out++[c]).length=out.length+1)]at T;go_wp2;go_end0;exact V T):p:=h
theorem N5I(h:p:=by rw[x0w];exact f6J):p:=h
end
namespace Nm
variable {cl:Int->Int} {cp:Int->Int->Int×Bool}
def hgh(cl:Int->Int):List Int->Int
 | []=>-1
 | c::l=>max (cl c) (hgh cl l)
def blk(cl:Int->Int)(l:List Int)(k:Int):Bool:=l.any fun c=>decide (k<=cl c)
theorem z4f(l:List Int){k:Int}(G:0<=k):blk cl l k=decide (k<=hgh cl l):=by
 unfold blk
 induction l with
 | nil=>rw[hgh,d0f f6J];rfl
 | cons c l ih =>
  rw[List.any_cons,ih,hgh];by_cases D:k<=cl c
  ·grind
  ·grind
theorem z1z(l:List Int)(c:Int):hgh cl (l++[c])=max (hgh cl l) (max (cl c) (-1)):=by
 induction l with
 | nil=>show max (cl c) (-1)=max (-1) (max (cl c) (-1));omega
 | cons d l ih=>rw[List.cons_append,hgh,ih,hgh];omega
theorem y8a(l:List Int):-1<=hgh cl l:=by
 cases l with
 | nil=>exact Int.le_refl _
 | cons c l=>rw[hgh];have:=y8a l;omega
theorem z3i{M:Int}(P:∀c,cl c<=M)(T:-1<=M)(l:List Int):hgh cl l<=M:=by
 induction l with
 | nil=>exact T
 | cons c l ih=>rw[hgh];have:=P c;omega
def bhd(s:List Int×Int):List Int:=s.1.drop (s.2+1).toNat
def fits(cl:Int->Int)(cp:Int->Int->Int×Bool)(s:List Int×Int)(c:Int):Bool:=decide (0<=s.2)&&(!(blk cl (bhd s) (cl c))&&(cp (s.1.getD s.2.toNat 0) c).2)
def stp(cl:Int->Int)(cp:Int->Int->Int×Bool)(s:List Int×Int)(c:Int):List Int×Int:=if fits cl cp s c=true then(s.1.set s.2.toNat (cp (s.1.getD s.2.toNat 0) c).1,s.2)else(s.1++[c],if cl c=0 then(s.1.length:Int)else s.2)
def run(cl:Int->Int)(cp:Int->Int->Int×Bool)(X:List Int):List Int×Int:=X.foldl (stp cl cp) ([],-1)
def cps(cl:Int->Int)(cp:Int->Int->Int×Bool)(X:List Int):List Int:=(run cl cp X).1
theorem y3N(X:List Int)(c:Int):run cl cp (X++[c])=stp cl cp (run cl cp X) c:=by
 unfold run;rw[List.foldl_append];rfl
theorem z2w{X:List Int}{k:Nat}(h:k<X.length):run cl cp (X.take (k+1))=stp cl cp (run cl cp (X.take k)) (X.getD k 0):=by
 rw[List.take_add_one,<- y3N];exact p8I
def In(s:List Int×Int):Prop:=-1<=s.2/\s.2<s.1.length
theorem z8V{s:List Int×Int}(h:In s)(c:Int):In (stp cl cp s c)/\(stp cl cp s c).1.length<=s.1.length+1:=by
 unfold In at *;unfold stp;split
 ·exact f4S
 ·simp;exact G7p
theorem z3y(X:List Int):In (run cl cp X)/\(run cl cp X).1.length<=X.length:=by
 obtain⟨M,rfl⟩:∃M:List Int,X=M.reverse:=⟨X.reverse,by rw[List.reverse_reverse]⟩
 induction M with
 | nil=>exact⟨⟨Int.le_refl _,(e8M:(-1:Int)<0)⟩,l0r _⟩
 | cons c l ih =>
  rw[List.reverse_cons,y3N];have h:=z8V (cl:=cl) (cp:=cp) ih.1 c;refine⟨h.1,?_⟩;rw[List.length_append];have:=h.2;have:=ih.2;simp only[List.length_cons,List.length_nil];omega
theorem hgh_fit(s:List Int×Int)(p:Int):bhd (s.1.set s.2.toNat p,s.2)=bhd s\/s.2<0:=by
 by_cases T:s.2<0
 ·exact .inr T
 ·refine .inl ?_;unfold bhd;rw[List.drop_set_of_lt];omega
theorem z5a(s:List Int×Int)(c:Int):bhd (s.1++[c],(s.1.length:Int))=[]:=by
 unfold bhd;rw[List.drop_eq_nil_iff];simp
theorem z4Z{s:List Int×Int}(h:In s)(c:Int):bhd (s.1++[c],s.2)=bhd s++[c]:=by
 unfold bhd;obtain⟨D,Z⟩:=h;rw[List.drop_append_of_le_length];show(s.2+1).toNat<=s.1.length;omega
end Nm
def LdAt(w:World)(L:Nat)(v:Value)(st hi:Int):Prop:=w.heap[L]?=some (.cells #[v,.int .i64 st,.int .i64 hi] 102 (0,0))
section
variable {w:World} {L:Nat} {v:Value} {st hi:Int}
theorem LdAt.c0(h:LdAt w L v st hi):w.cell? ⟨L,0,none⟩=some v:=cell_of (j:=0) h T7b
theorem LdAt.c1(h:LdAt w L v st hi):w.cell? ⟨L,1,none⟩=some (.int .i64 st):=cell_of (j:=1) h f2O
theorem LdAt.c2(h:LdAt w L v st hi):w.cell? ⟨L,2,none⟩=some (.int .i64 hi):=cell_of (j:=2) h U4t
theorem LdAt.fz(h:LdAt w L v st hi)(j:Nat):w.frozen? ⟨L,j,none⟩=false:=x0e h
theorem LdAt.lt(h:LdAt w L v st hi):L<w.heap.size:=x0a h.c0
theorem LdAt.below{w':World}(h:LdAt w L v st hi)(C:Bw w w'):LdAt w' L v st hi:=by
 unfold LdAt at *;rw[C.block L (LdAt.lt h)];exact h
theorem LdAt.set0(h:LdAt w L v st hi)(x:Value):LdAt (w.setCell ⟨L,0,none⟩ x) L x st hi:=n4B
theorem LdAt.set1(h:LdAt w L v st hi)(x:Int):LdAt (w.setCell ⟨L,1,none⟩ (.int .i64 x)) L v x hi:=n4B
theorem LdAt.set2(h:LdAt w L v st hi)(x:Int):LdAt (w.setCell ⟨L,2,none⟩ (.int .i64 x)) L v st x:=n4B
theorem LdAt.apart(h:LdAt w L v st hi){B n:Nat}{u:Value}{us:List Value}(y:w.ownsRow B 21 1 u n us):u.ownBlock≠some L:=by
 intro e;rcases y.2 with⟨rfl,_⟩ | ⟨g,M,P,rfl,_,Y,_⟩
 ·cases e
 ·simp[Value.ownBlock]at e;subst e;unfold LdAt at h;rw[Y]at h;simp at h
theorem LdAt.grown{w':World}(h:LdAt w L v st hi){B n:Nat}{u:Value}{us:List Value}(y:w.ownsRow B 21 1 u n us)(Y:w.grownBy w' u.ownBlock):LdAt w' L v st hi:=by
 have A:=h.apart y;unfold LdAt at *;rw[Y.block L (LdAt.lt h) (fun e=>A e.symm)];exact h
theorem LdAt.ok{j B:Nat}{x u:Value}{zs:List Int}(h:LdAt w L v st hi)(y:Ok .i32 21 w B u zs):Ok .i32 21 (w.setCell ⟨L,j,none⟩ x) B u zs:=by
 refine⟨y.1,y.2.1,x0u y.2.2 fun g Y=>?_⟩;exact x0g _ (fun e=>h.apart y.2.2 (by rw[<- e];exact Y))
end
theorem z0R{w:World}{L:Nat}{v:Value}{st hi:Int}(h:LdAt w L v st hi)(k:Int):Calls prog 99 #[.pointer (some ⟨L,0,none⟩),.int .i64 k] w (fun e w'=>e=.returned (.bool (decide (k<=hi)))/\w'=w):=by
 have z:=h.c2;go_enter func99,ntmps99;exact t6u
def LdS(cl:Int->Int)(w:World)(B L:Nat)(s:List Int×Int):Prop:=∃v,LdAt w L v s.2 (Nm.hgh cl (Nm.bhd s))/\Ok .i32 21 w B v s.1/\B<=L
def LayB(cl:Int->Int)(B L:Nat)(w:World)(s:List Int×Int)(e:Ending)(w':World):Prop:=e=.returned (.tuple #[])/\LdS cl w' B L s/\Below B w w'
theorem y0v(w:World){n:Nat}(E:n=w.heap.size)(c:Int)(h:Rune c):Sk .i32 (w.alloc (.cells #[.int .i32 c] 21)) (.slice (some ⟨n,0,none⟩) 1 1) [c]:=by
 subst E;exact lit15 w [c] 1 rfl f6J f6J _ rfl (fun z o=>(by simpa using o:z=c) ▸ h)
theorem lay18{cl:Int->Int}(y:∀c,0<=cl c/\cl c<=254){w:World}{B L:Nat}{s:List Int×Int}(ae:Nm.In s)(K:LdS cl w B L s)(c:Int)(hc:Rune c)(hl:s.1.length<=10000000):Calls prog 101 #[.pointer (some ⟨L,0,none⟩),.int .i32 c,.int .i64 (cl c)] w (LayB cl B L w (s.1++[c],if cl c=0 then(s.1.length:Int)else s.2)):=by
 obtain⟨v,X,hO,r⟩:=K;have af:=X.lt;obtain⟨ao,M,hv,n,C⟩:=hO.sk.shape;subst hv;have c0:=X.c0;have c1:=X.c1;have z:=X.c2;have b:=X.fz 0;have m:=X.fz 1;have S:=X.fz 2;have Y:=O hc;have G:=y c;have q:=Nm.y8a (cl:=cl) (Nm.bhd s);have u:=Nm.z3i (cl:=cl) (fun c=>(y c).2) f6J (Nm.bhd s);by_cases hz:cl c=0
 ·rw[if_pos hz,hz];have H1:=O ((X.set1 (s.1.length:Int)).set2 (-1));have g:=(X.set1 (s.1.length:Int)).c2;have d2:=(X.set1 (s.1.length:Int)).fz 2;have t:=(V H1).c0;have E:=O ((X.set1 (s.1.length:Int)).ok (j:=2) (x:=.int .i64 (-1)) (X.ok (j:=1) (x:=.int .i64 (s.1.length:Int)) hO));have l:Hid (Below B w ((w.setCell ⟨L,1,none⟩ (.int .i64 (s.1.length:Int))).setCell ⟨L,2,none⟩ (.int .i64 (-1)))):=x0d (x0d (Below.refl B w) r _) r _
  have ab:Hid (∀W Q,LdAt W L (.slice ao s.1.length M) (s.1.length:Int) (-1)->Ok .i32 21 W B (.slice ao s.1.length M) s.1->Below B w W->∀o a,Ok .i32 21 Q B a (s.1++[c])->(W.alloc o).grownBy Q (Value.slice ao s.1.length M).ownBlock->LdAt Q L (.slice ao s.1.length M) (s.1.length:Int) (-1)/\LayB cl B L w (s.1++[c],(s.1.length:Int)) (.returned (.tuple #[])) (Q.setCell ⟨L,0,none⟩ a)):=fun W Q D Z R o a H p=>by
   have F:=(D.below ((Below.refl W.heap.size W).alloc (l0r _) o)).grown (x2i Z o).2.2 p;have I:=R.size;refine⟨F,rfl,⟨a,?_,F.ok H,r⟩,x0d ((R.alloc f6J o).grown p N5I (fun k G=>(Z.2.2.lt k G).1)) r _⟩;show LdAt _ L a (s.1.length:Int) (Nm.hgh cl (Nm.bhd (s.1++[c],(s.1.length:Int))));rw[Nm.z5a];exact F.set0 a
  have I:=(V l).size;have d:B<=w.heap.size:=f6J;exact R8K
 ·rw[if_neg hz];have H1:=O (X.set2 (max (Nm.hgh cl (Nm.bhd s)) (cl c)));have t:=(V H1).c0;have E:=O (X.ok (j:=2) (x:=.int .i64 (max (Nm.hgh cl (Nm.bhd s)) (cl c))) hO);have l:Hid (Below B w (w.setCell ⟨L,2,none⟩ (.int .i64 (max (Nm.hgh cl (Nm.bhd s)) (cl c))))):=x0d (Below.refl B w) r _
  have ab:Hid (∀W Q,LdAt W L (.slice ao s.1.length M) s.2 (max (Nm.hgh cl (Nm.bhd s)) (cl c))->Ok .i32 21 W B (.slice ao s.1.length M) s.1->Below B w W->∀o a,Ok .i32 21 Q B a (s.1++[c])->(W.alloc o).grownBy Q (Value.slice ao s.1.length M).ownBlock->LdAt Q L (.slice ao s.1.length M) s.2 (max (Nm.hgh cl (Nm.bhd s)) (cl c))/\LayB cl B L w (s.1++[c],s.2) (.returned (.tuple #[])) (Q.setCell ⟨L,0,none⟩ a)):=fun W Q D Z R o a H p=>by
   have F:=(D.below ((Below.refl W.heap.size W).alloc (l0r _) o)).grown (x2i Z o).2.2 p;have I:=R.size;refine⟨F,rfl,⟨a,?_,F.ok H,r⟩,x0d ((R.alloc f6J o).grown p N5I (fun k G=>(Z.2.2.lt k G).1)) r _⟩;show LdAt _ L a s.2 (Nm.hgh cl (Nm.bhd (s.1++[c],s.2)));rw[Nm.z4Z ae,Nm.z1z,(f6J:max (Nm.hgh cl (Nm.bhd s)) (max (cl c) (-1))=max (Nm.hgh cl (Nm.bhd s)) (cl c))];exact F.set0 a
  have I:=(V l).size;have d:B<=w.heap.size:=f6J;have ag:(cl c==0)=false:=(by grind);exact R8K
theorem Ok.setAt18{K:IntKind}{e:TypeId}{w:World}{B g n cap:Nat}{zs:List Int}(h:Ok K e w B (.slice (some ⟨g,0,none⟩) n cap) zs)(k:Nat)(z:Int)(o:Fit K [z]) :
  Ok K e (w.setCell ⟨g,k,none⟩ (.int K z)) B (.slice (some ⟨g,0,none⟩) n cap) (zs.set k z)/\w.frozen? ⟨g,k,none⟩=false:=by
 have a:=h.row;rcases a.2 with⟨T,_⟩ | ⟨c,J,P,N,C,t,E,m,I,s⟩
 ·cases T
 ·exact I3T
theorem LdS.below{cl:Int->Int}{w w':World}{B L:Nat}{s:List Int×Int}(h:LdS cl w B L s)(C:Bw w w'):LdS cl w' B L s:=by
 obtain⟨v,D,Z,R⟩:=h;exact⟨v,D.below C,Z.below C,R⟩
structure NmC(p:Nat)(cl:Int->Int)(cp:Int->Int->Int×Bool)(w0:World):Prop where
 cr:∀c,0<=cl c/\cl c<=254
 pr:∀a b,Rune a->Rune b->Rune (cp a b).1
 c:∀c,Rune c->∀W,Below w0.heap.size w0 W->Calls prog 98 #[.pointer (some ⟨p,0,none⟩),.int .i32 c] W (IntB W (cl c))
 k:∀a b,Rune a->Rune b->∀W,Below w0.heap.size w0 W->Calls prog 100 #[.pointer (some ⟨p,0,none⟩),.int .i32 a,.int .i32 b] W (fun e w'=>e=.returned (.tuple #[.int .i32 (cp a b).1,.bool (cp a b).2])/\w'=W)
theorem z8Z{p:Nat}{cl:Int->Int}{cp:Int->Int->Int×Bool}{U:World}(y:NmC p cl cp U){w:World}{L:Nat}{s:List Int×Int}(hb:Bw U w)(X:Nm.In s)(hS:LdS cl w U.heap.size L s)(c:Int)(hc:Rune c)(hl:s.1.length<=10000000):Calls prog 57 #[.pointer (some ⟨L,0,none⟩),.pointer (some ⟨p,0,none⟩),.int .i32 c] w (LayB cl U.heap.size L w (Nm.stp cl cp s c)):=by
 have KC:=O (y.c c hc w hb);have F:=y.cr c;have J:=hb.size;have KL:Hid (∀W,Bw w W->Calls prog 101 #[.pointer (some ⟨L,0,none⟩),.int .i32 c,.int .i64 (cl c)] W (LayB cl U.heap.size L w (s.1++[c],if cl c=0 then(s.1.length:Int)else s.2))):=fun W t=>(lay18 y.cr X (hS.below t) c hc hl).mono fun e w' h=>⟨h.1,h.2.1,(t.mono J).trans h.2.2⟩;have aw:=Nm.y8a (cl:=cl) (Nm.bhd s);have ay:=Nm.z3i (cl:=cl) (fun c=>(y.cr c).2) f6J (Nm.bhd s);have az:=X.1;have aA:=X.2;by_cases h0:s.2<0
 ·have E:s.2=-1:=by omega
  have B:Nm.stp cl cp s c=(s.1++[c],if cl c=0 then(s.1.length:Int)else s.2):=by
   unfold Nm.stp Nm.fits;rw[d0f f6J];rfl
  have l:Hid (∀W,Bw w W->W.cell? ⟨L,1,none⟩=some (.int .i64 (-1))):=fun W t=>by
   obtain⟨v,h1,_,_⟩:=hS.below t;rw[<- E];exact h1.c1
  rw[B];generalize(s.1++[c],if cl c=0 then(s.1.length:Int)else s.2)=d at *;go_enter func57,ntmps57;go_wp2_with fail;refine c0m KC fun Q b1=>?_;have u:=V l Q b1;have j:=O (V KL Q b1);go_wp2_with fail;refine(V j).mono ?_;rintro e A Z;obtain⟨rfl,Z⟩:=Z;have T:=O Z;go_wp2;go_end0;exact⟨rfl,V T⟩
 ·obtain⟨st,B⟩:∃st:Nat,s.2=(st:Int):=⟨s.2.toNat,f6J⟩;have ae:st<s.1.length:=f6J;have P:s.2.toNat=st:=f6J;obtain⟨v0,aj,D,r⟩:=hS;obtain⟨g,M,hv,ar,aq⟩:=y9d D.row f6J;subst hv;have b:U.heap.size<=g:=(D.2.2.lt g V3M).1;have C:Hid (∀W,Bw w W->LdAt W L (.slice (some ⟨g,0,none⟩) s.1.length M) (st:Int) (Nm.hgh cl (Nm.bhd s))/\Ok .i32 21 W U.heap.size (.slice (some ⟨g,0,none⟩) s.1.length M) s.1):=fun W t=>⟨B ▸ aj.below t,D.below t⟩;have H:Rune (s.1.getD st 0):=x1c D.sk ae
  have G:Hid (∀W,Bw w W->W.cell? ⟨g,st,none⟩=some (.int .i32 (s.1.getD st 0))):=fun W t=>by
   obtain⟨b3,o3,q3,e3,_,_,R⟩:=(D.below t).sk.place f6J;simp only[Value.slice.injEq,Option.some.injEq,Addr.mk.injEq]at e3;obtain⟨⟨rfl,rfl,_⟩,_,_⟩:=e3;have h4:=R st ae;rwa [Nat.zero_add]at h4
  have f:Hid (∀W,Bw w W->Calls prog 100 #[.pointer (some ⟨p,0,none⟩),.int .i32 (s.1.getD st 0),.int .i32 c] W (fun e w'=>e=.returned (.tuple #[.int .i32 (cp (s.1.getD st 0) c).1,.bool (cp (s.1.getD st 0) c).2])/\w'=W)):=fun W t=>y.k _ _ H hc W (x0b hb t);have ai:=O (y.pr _ _ H hc)
  have I:Hid ((Nm.blk cl (Nm.bhd s) (cl c)=true\/(cp (s.1.getD st 0) c).2=false)->Nm.stp cl cp s c=(s.1++[c],if cl c=0 then(s.1.length:Int)else s.2)):=fun h=>by
   unfold Nm.stp Nm.fits;rw[P];rcases h with h | h<;>rw[h]<;>simp
  have K:Hid (Nm.blk cl (Nm.bhd s) (cl c)=false->(cp (s.1.getD st 0) c).2=true->Nm.stp cl cp s c=(s.1.set st (cp (s.1.getD st 0) c).1,s.2)):=fun h1 Z=>by
   unfold Nm.stp Nm.fits;rw[P,h1,Z,d0t f6J];rfl
  have x:Hid (∀q,Nm.bhd (s.1.set st q,s.2)=Nm.bhd s):=fun q=>by
   rcases Nm.hgh_fit s q with h | h
   ·rw[P]at h;exact h
   ·omega
  have af:=O (Nm.z4f (cl:=cl) (Nm.bhd s) F.1)
  have Y:Hid (∀W,Bw w W->Calls prog 99 #[.pointer (some ⟨L,0,none⟩),.int .i64 (cl c)] W (fun e w'=>e=.returned (.bool (Nm.blk cl (Nm.bhd s) (cl c)))/\w'=W)):=fun W t=>by
   have:=z0R (V C W t).1 (cl c);rw[<- V af]at this;exact this
  have N:Hid (∀q W,Rune q->Bw w W->W.frozen? ⟨g,st,none⟩=false/\LayB cl U.heap.size L w (s.1.set st q,s.2) (.returned (.tuple #[])) (W.setCell ⟨g,st,none⟩ (.int .i32 q))):=fun q W hq t=>by
   obtain⟨a1,a2⟩:=V C W t;obtain⟨o1,f1⟩:=a2.setAt18 st q (fun z o=>by rw[List.mem_singleton]at o;rw[o];exact x0T hq);refine⟨f1,rfl,⟨.slice (some ⟨g,0,none⟩) s.1.length M,?_,o1,r⟩,x0d (t.mono J) b _⟩;show LdAt _ L _ s.2 (Nm.hgh cl (Nm.bhd (s.1.set st q,s.2)));rw[V x q,B];have am:L≠g:=fun e=>a1.apart a2.2.2 (by rw[e];rfl);unfold LdAt;rw[x0g _ am];exact a1
  generalize Nm.blk cl (Nm.bhd s) (cl c)=bk,(s.1++[c],if cl c=0 then(s.1.length:Int)else s.2)=d at *;have l:Hid (∀W,Bw w W->W.cell? ⟨L,1,none⟩=some (.int .i64 (st:Int))/\W.cell? ⟨L,0,none⟩=some (.slice (some ⟨g,0,none⟩) s.1.length M)):=fun W t=>⟨(V C W t).1.c1,(V C W t).1.c0⟩;generalize cl c=k at *
  cases bk with
  | true =>
   rw[V I (.inl rfl)];go_enter func57,ntmps57;go_wp2_with fail;refine c0m KC fun Q b1=>?_;obtain⟨u,x0⟩:=V l Q b1;have i:=O (V Y Q b1);have j:=O (V KL Q b1);go_wp2_with fail;refine(V i).mono ?_;rintro e A ⟨rfl,rfl⟩;go_wp2_with fail;refine(V j).mono ?_;rintro e w3 R;obtain⟨rfl,R⟩:=R;have T:=O R;go_wp2;go_end0;exact⟨rfl,V T⟩
  | false =>
   go_enter func57,ntmps57;go_wp2_with fail;refine c0m KC fun Q b1=>?_;obtain⟨u,x0⟩:=V l Q b1;have x3:=V G Q b1;have i:=O (V Y Q b1);have j:Hid (∀m:Nat,Calls prog 101 #[.pointer (some ⟨L,0,none⟩),.int .i32 c,.int .i64 k] (Q.drewN m) (LayB cl U.heap.size L w d)):=fun m=>V KL _ (x0b b1 (x0k ⟨m,rfl⟩));have S:=fun m:Nat=>O (V f (Q.drewN m) (x0b b1 (x0k ⟨m,rfl⟩)));have ab:Hid (∀W,Bw Q W->W.frozen? ⟨g,st,none⟩=false/\LayB cl U.heap.size L w (s.1.set st (cp (s.1.getD st 0) c).1,s.2) (.returned (.tuple #[])) (W.setCell ⟨g,st,none⟩ (.int .i32 (cp (s.1.getD st 0) c).1))):=fun W t=>V N _ W (V ai) (x0b b1 t);generalize(s.1.set st (cp (s.1.getD st 0) c).1,s.2)=s3 at *;generalize(cp (s.1.getD st 0) c).1=q at *;generalize(cp (s.1.getD st 0) c).2=ok at *;generalize s.1.getD st 0=a at *;generalize Nm.stp cl cp s c=s4,s.1.length=n at *;go_wp2_with fail;refine(V i).mono ?_;rintro e A ⟨rfl,rfl⟩
   cases ok with
   | false =>
    obtain rfl:s4=d:=V I M7L;go_wp2;go_quiet(first| (go_at_call 100;exact Calls.quiet_of_same (V (S _))));go_wp2_with fail;refine(V j _).mono ?_;rintro e w3 R;obtain⟨rfl,R⟩:=R;have T:=O R;go_wp2;go_end0;exact i5u
   | true =>
    obtain rfl:s4=s3:=V K M7L M7L;go_wp2;go_quiet(first| (go_at_call 100;exact Calls.quiet_of_same (V (S _))));go_wp2;have f3:=(V ab A (b0r)).1;have ag:Hid (∀m:Nat,LayB cl U.heap.size L w s4 (.returned (.tuple #[])) ((A.drewN m).setCell ⟨g,st,none⟩ (.int .i32 q))):=fun m=>(V ab _ (x0k ⟨m,rfl⟩)).2;go_region;go_wp2;go_end0;exact V ag _
namespace Nm
variable {cl:Int->Int} {cp:Int->Int->Int×Bool}
end Nm
theorem z7S(n:Nat)(w:World)(B:Nat)(l:B<=w.heap.size)(E:n<=3000000):∃W,(Instr.makeSlice 40 (.int .i64 0) (.int .i64 (n:Int))).run prog w=.ok (.slice (some ⟨w.heap.size,0,none⟩) 0 n) W/\Ok .i32 21 W B (.slice (some ⟨w.heap.size,0,none⟩) 0 n) []/\w.grownBy W none:=by
 obtain⟨r,hi,i,d,f⟩:=info_parts y2a;exact U0q
theorem y4y{p:Nat}{cl:Int->Int}{cp:Int->Int->Int×Bool}{w:World}(y:NmC p cl cp w){a:Value}{X:List Int}(J:Sk .i32 w a X)(af:X.length<=3000000):Calls prog 30 #[.pointer (some ⟨p,0,none⟩),a] w (x0j w (Nm.cps cl cp X)):=by
 have Y:Hid (∀(k:Nat),k<X.length->∃b P M,a=.slice (some ⟨b,P,none⟩) X.length M/\∀W,Bw w W->W.cell? ⟨b,P+k,none⟩=some (.int .i32 (X.getD k 0))):=fun k G=>by
  obtain⟨b,P,M,q,_,_,I⟩:=J.place f6J;exact⟨b,P,M,q,fun W hW=>by rw[hW.cell (x0a (I k G))];exact I k G⟩
 have KT:Hid (∀k L wr,k<X.length->Bw w wr->LdS cl wr w.heap.size L (Nm.run cl cp (X.take k))->Calls prog 57 #[.pointer (some ⟨L,0,none⟩),.pointer (some ⟨p,0,none⟩),.int .i32 (X.getD k 0)] wr (LayB cl w.heap.size L wr (Nm.run cl cp (X.take (k+1))))):=fun k L wr G C z=>by
  rw[Nm.z2w G];have hi:=Nm.z3y (cl:=cl) (cp:=cp) (X.take k);have:=hi.2;rw[List.length_take]at this;exact z8Z y C hi.1 z _ (x1c J G) f6J
 obtain⟨l,t,x,g0⟩:=z7S X.length w w.heap.size (l0r _) af;have U:Bw w l:=(b0r).grown g0 (l0r _) (fun k G=>g6B);have ab:=U.size
 have A:Hid (LdS cl (l.alloc (.cells #[.slice (some ⟨w.heap.size,0,none⟩) 0 X.length,.int .i64 (-1),.int .i64 (-1)] 102)) w.heap.size l.heap.size (Nm.run cl cp (X.take 0))):=by
  refine⟨.slice (some ⟨w.heap.size,0,none⟩) 0 X.length,?_,x2i x _,ab⟩;show(l.heap.push _)[l.heap.size]?=_;rw[List.take_zero];simp;exact⟨rfl,rfl⟩
 have o:Hid (Bw w (l.alloc (.cells #[.slice (some ⟨w.heap.size,0,none⟩) 0 X.length,.int .i64 (-1),.int .i64 (-1)] 102))):=U.alloc ab _
 have m:Hid (∀L wr,LdS cl wr w.heap.size L (Nm.run cl cp (X.take X.length))->Bw w wr->∃v,wr.cell? ⟨L,0,none⟩=some v/\(∃s n M,v=.slice s n M)/\x0j w (Nm.cps cl cp X) (.returned v) wr):=fun L wr h C=>by
  rw[List.take_length]at h;obtain⟨v,D,Z,_⟩:=h;obtain⟨s,M,e,_,_⟩:=Z.sk.shape;exact⟨v,D.c0,⟨s,_,M,e⟩,v,rfl,Z,C⟩
 obtain⟨s,M,rfl,_,_⟩:=J.shape;clear y J x g0 U;generalize Nm.cps cl cp X=out at *;go_enter func30,ntmps30;go_wp2;generalize hLe:l.heap.size=L at *;clear hLe;go_loopw[7,14] (fun _ iv wr=>∃k:Nat,iv=.int .i64 k/\k<=X.length/\LdS cl wr w.heap.size L (Nm.run cl cp (X.take k))/\Bw w wr) (fun _ iv _=>X.length-(intOf iv).toNat)
 case atStart=>exact⟨0,rfl,f6J,V A,V o⟩
 case round =>
  obtain⟨k,rfl,G,z,r⟩:=hrel;clear A o t;by_cases H:k<X.length
  ·have j:(k:Int)<X.length:=f6J;obtain⟨b,P,N,q,B⟩:=V Y k H;simp only[Value.slice.injEq]at q;obtain⟨rfl,-,rfl⟩:=q;have F:=B wr r;have K:=O (V KT k L wr H r z);have R:=O r;have S:Hid (∀W,LdS cl W w.heap.size L (Nm.run cl cp (X.take (k+1)))->Bw w W->∃n:Nat,Value.int .i64 ((k:Int)+1)=.int .i64 (n:Int)/\n<=X.length/\LdS cl W w.heap.size L (Nm.run cl cp (X.take n))/\Bw w W):=fun W D Z=>⟨k+1,g2A,f6J,D,Z⟩;clear z B r Y KT m;generalize Nm.run cl cp (X.take (k+1))=s2,X.getD k 0=c at *;go_wp2_with fail;refine(V K).mono ?_;rintro e Q ⟨rfl,D,Z⟩;have T:=O (V S Q D ((V R).trans Z));clear K R S D Z F;go_wp2
   go_roundw
   case rel=>exact V T
   case measure=>exact g7T
  ·have ae:k=X.length:=f6J;subst ae;obtain⟨v,u,⟨i,E,f,rfl⟩,g⟩:=V m L wr z r;have T:=O g;clear z r Y KT m g;exact v8n
def NfdC(p:Nat)(nf:List Int->List Int)(w0:World):Prop:=(∀X,(nf X).length<=32*X.length)/\∀xv X W,Below w0.heap.size w0 W->Sk .i32 W xv X->X.length<=65536->Calls prog 29 #[.pointer (some ⟨p,0,none⟩),xv] W (fun e w'=>∃v,e=.returned (.tuple #[v,.int .i64 0])/\Ok .i32 21 w' W.heap.size v (nf X)/\Below W.heap.size W w')
theorem NmC.on{p:Nat}{cl:Int->Int}{cp:Int->Int->Int×Bool}{w W:World}(h:NmC p cl cp w)(C:Bw w W):NmC p cl cp W:=⟨h.cr,h.pr,fun c I Q t=>h.c c I Q (x0b C t),fun a b A P Q t=>h.k a b A P Q (x0b C t)⟩
theorem z7Y{p:Nat}{cl:Int->Int}{cp:Int->Int->Int×Bool}{E:List Int->List Int}{w:World}(y:NmC p cl cp w)(g:NfdC p E w){a:Value}{X:List Int}(J:Sk .i32 w a X)(D:X.length<=65536):Calls prog 15 #[.pointer (some ⟨p,0,none⟩),a] w (fun e w'=>∃v,e=.returned (.tuple #[v,.int .i64 0])/\Ok .i32 21 w' w.heap.size v (Nm.cps cl cp (E X))/\Bw w w'):=by
 have K:=O (g.2 a X w (b0r) J D);have S:=g.1 X;have Z:Hid (∀W d,Bw w W->Sk .i32 W d (E X)->Calls prog 30 #[.pointer (some ⟨p,0,none⟩),d] W (x0j W (Nm.cps cl cp (E X)))):=fun W d t x=>y4y (y.on t) x f6J;obtain⟨s,M,rfl,_,_⟩:=J.shape;clear y g J;generalize Nm.cps cl cp (E X)=out at *;generalize E X=Y at *;go_enter func15,ntmps15;go_wp2_with fail;refine(V K).mono ?_;rintro e Q ⟨H,rfl,U,b1⟩;have j:=O (V Z Q H b1 U.sk);obtain⟨P,G,n,_,_⟩:=U.sk.shape;subst n;have B:=O b1;have I:=b1.size;clear K Z U b1;go_wp2_with fail;refine(V j).mono ?_;rintro e A ⟨R,rfl,N,m⟩;obtain⟨i,f,C,_,_⟩:=N.sk.shape;subst C;have T:Hid (Ok .i32 21 A w.heap.size (.slice i out.length f) out/\Bw w A):=⟨N.lower I,x0b (V B) m⟩;clear j N m B;go_wp2;go_ret2;exact⟨_,rfl,V T⟩
theorem isN18{p:Nat}{cl:Int->Int}{cp:Int->Int->Int×Bool}{E:List Int->List Int}{w:World}(y:NmC p cl cp w)(g:NfdC p E w){a:Value}{X:List Int}(J:Sk .i32 w a X)(D:X.length<=65536):Calls prog 204 #[.pointer (some ⟨p,0,none⟩),a] w (fun e w'=>e=.returned (.tuple #[.bool (decide (X=Nm.cps cl cp (E X))),.int .i64 0])/\Bw w w'):=by
 have K:=O (z7Y y g J D);have F:Hid (∀W d,Bw w W->Sk .i32 W d (Nm.cps cl cp (E X))->Calls prog 31 #[a,d] W (x0c W (decide (X=Nm.cps cl cp (E X))))):=fun W d t x=>(y3e a d X _ W (J.below t) x).mono fun _ _ h=>⟨h.1,x0k h.2⟩;obtain⟨s,M,rfl,_,_⟩:=J.shape;clear y g J;generalize Nm.cps cl cp (E X)=out at *;generalize decide (X=out)=l at *;go_enter func204,ntmps204;go_wp2_with fail;refine(V K).mono ?_;rintro e Q ⟨H,rfl,U,b1⟩;have j:=O (V F Q H b1 U.sk);obtain⟨P,G,n,_,_⟩:=U.sk.shape;subst n;have B:=O b1;clear K F U b1;go_wp2_with fail;refine c0m j fun A m=>?_;have T:=O (x0b (V B) m);clear j B m;go_wp2;go_ret2;exact⟨rfl,V T⟩
