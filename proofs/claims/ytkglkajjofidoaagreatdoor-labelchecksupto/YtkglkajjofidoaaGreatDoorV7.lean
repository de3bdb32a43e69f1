/- Na18 Nb18 Nc18 Nd18 Ne18 -/
import Derived.Test.YtkglkajjofidoaaGreatDoorV3
import Derived.Lib.MinMaxS
import Derived.Laws.MakeOwn
set_option maxHeartbeats 4000000
set_option maxRecDepth 8000
namespace Go.Proofs.YtkglkajjofidoaaGreatDoor
open Go.Proofs.Tryz
namespace Nm
variable {cl:Int->Int} {cp:Int->Int->Int × Bool}
def hgh (cl:Int->Int):List Int->Int
 | []=>-1
 | c :: l=>max (cl c) (hgh cl l)
def blk (cl:Int->Int) (l:List Int) (k:Int):Bool:=l.any fun c=>decide (k<=cl c)
theorem y9d (l:List Int) {k:Int} (hk:0<=k):blk cl l k=decide (k<=hgh cl l):=by
 unfold blk
 induction l with
 | nil=>rw [hgh,d0f (by omega)]; rfl
 | cons c l ih =>
  rw [List.any_cons,ih,hgh];by_cases h1:k<=cl c
  ·rw [d0t h1,Bool.true_or,d0t (by omega)]
  ·rw [d0f h1,Bool.false_or];congr 1;apply propext;omega
theorem y6J (l:List Int) (c:Int):hgh cl (l++[c])=max (hgh cl l) (max (cl c) (-1)):=by
 induction l with
 | nil=>show max (cl c) (-1)=max (-1) (max (cl c) (-1)); omega
 | cons d l ih=>rw [List.cons_append,hgh,ih,hgh]; omega
theorem y4a (l:List Int):-1<=hgh cl l:=by
 cases l with
 | nil=>exact Int.le_refl _
 | cons c l=>rw [hgh]; have:=y4a l; omega
theorem y8l {M:Int} (hM:∀ c,cl c<=M) (h0:-1<=M) (l:List Int):hgh cl l<=M:=by
 induction l with
 | nil=>exact h0
 | cons c l ih=>rw [hgh]; have:=hM c; omega
def bhd (s:List Int × Int):List Int:=s.1.drop (s.2+1).toNat
def fits (cl:Int->Int) (cp:Int->Int->Int × Bool) (s:List Int × Int) (c:Int):Bool:=decide (0<=s.2) && (!(blk cl (bhd s) (cl c)) && (cp (s.1.getD s.2.toNat 0) c).2)
def stp (cl:Int->Int) (cp:Int->Int->Int × Bool) (s:List Int × Int) (c:Int):List Int × Int:=if fits cl cp s c=true then (s.1.set s.2.toNat (cp (s.1.getD s.2.toNat 0) c).1,s.2) else (s.1++[c],if cl c=0 then (s.1.length:Int) else s.2)
def run (cl:Int->Int) (cp:Int->Int->Int × Bool) (X:List Int):List Int × Int:=X.foldl (stp cl cp) ([],-1)
def cps (cl:Int->Int) (cp:Int->Int->Int × Bool) (X:List Int):List Int:=(run cl cp X).1
theorem y0T (X:List Int) (c:Int):run cl cp (X++[c])=stp cl cp (run cl cp X) c:=by
 unfold run; rw [List.foldl_append]; rfl
theorem y0U {X:List Int} {k:Nat} (h:k<X.length):run cl cp (X.take (k+1))=stp cl cp (run cl cp (X.take k)) (X.getD k 0):=by
 rw [List.take_add_one,<- y0T]; simp [List.getD,h]
def In (s:List Int × Int):Prop:=-1<=s.2/\s.2<s.1.length
theorem z2v {s:List Int × Int} (h:In s) (c:Int):In (stp cl cp s c)/\(stp cl cp s c).1.length<=s.1.length+1:=by
 unfold In at *;unfold stp;split
 ·simp; omega
 ·simp; split <;> omega
theorem y8B (X:List Int):In (run cl cp X)/\(run cl cp X).1.length<=X.length:=by
 obtain ⟨M,rfl⟩:∃ M:List Int,X=M.reverse:=⟨X.reverse,by rw [List.reverse_reverse]⟩
 induction M with
 | nil=>exact ⟨⟨Int.le_refl _,show (-1:Int)<0 by decide⟩,l0r _⟩
 | cons c l ih =>
  rw [List.reverse_cons,y0T];have h:=z2v (cl:=cl) (cp:=cp) ih.1 c;refine ⟨h.1,?_⟩;rw [List.length_append];have:=h.2; have:=ih.2;simp only [List.length_cons,List.length_nil];omega
theorem hgh_fit (s:List Int × Int) (p:Int):bhd (s.1.set s.2.toNat p,s.2)=bhd s\/s.2<0:=by
 by_cases h0:s.2<0
 ·exact .inr h0
 ·refine .inl ?_;unfold bhd;rw [List.drop_set_of_lt];omega
theorem y9F (s:List Int × Int) (c:Int):bhd (s.1++[c],(s.1.length:Int))=[]:=by
 unfold bhd;rw [List.drop_eq_nil_iff];simp
theorem y9E {s:List Int × Int} (h:In s) (c:Int):bhd (s.1++[c],s.2)=bhd s++[c]:=by
 unfold bhd;obtain ⟨h1,h2⟩:=h;rw [List.drop_append_of_le_length];show (s.2+1).toNat<=s.1.length;omega
end Nm
open Go.RowKit
def LdAt (w:World) (L:Nat) (v:Value) (st hi:Int):Prop:=w.heap[L]?=some (.cells #[v,.int .i64 st,.int .i64 hi] 136 (0,0))
section
variable {w:World} {L:Nat} {v:Value} {st hi:Int}
theorem LdAt.c0 (h:LdAt w L v st hi):w.cell? ⟨L,0,none⟩=some v:=cell_of (j:=0) h (by show 0<3; omega)
theorem LdAt.c1 (h:LdAt w L v st hi):w.cell? ⟨L,1,none⟩=some (.int .i64 st):=cell_of (j:=1) h (by show 1<3; omega)
theorem LdAt.c2 (h:LdAt w L v st hi):w.cell? ⟨L,2,none⟩=some (.int .i64 hi):=cell_of (j:=2) h (by show 2<3; omega)
theorem LdAt.fz (h:LdAt w L v st hi) (j:Nat):w.frozen? ⟨L,j,none⟩=false:=x0e h
theorem LdAt.lt (h:LdAt w L v st hi):L<w.heap.size:=x0a h.c0
theorem LdAt.below {w':World} (h:LdAt w L v st hi) (hb:Bw w w'):LdAt w' L v st hi:=by
 unfold LdAt at *; rw [hb.block L (LdAt.lt h)]; exact h
theorem LdAt.set0 (h:LdAt w L v st hi) (x:Value):LdAt (w.setCell ⟨L,0,none⟩ x) L x st hi:=by unfold LdAt at *; rw [x0f h]; rfl
theorem LdAt.set1 (h:LdAt w L v st hi) (x:Int):LdAt (w.setCell ⟨L,1,none⟩ (.int .i64 x)) L v x hi:=by unfold LdAt at *; rw [x0f h]; rfl
theorem LdAt.set2 (h:LdAt w L v st hi) (x:Int):LdAt (w.setCell ⟨L,2,none⟩ (.int .i64 x)) L v st x:=by unfold LdAt at *; rw [x0f h]; rfl
theorem LdAt.apart (h:LdAt w L v st hi) {B n:Nat} {u:Value} {us:List Value} (ho:w.ownsRow B 21 1 u n us):u.ownBlock≠some L:=by
 intro e;rcases ho.2 with ⟨rfl,_⟩ | ⟨g,cap,cur,rfl,_,hg,_⟩
 ·cases e
 ·simp [Value.ownBlock] at e;subst e;unfold LdAt at h;rw [hg] at h;simp at h
theorem LdAt.grown {w':World} (h:LdAt w L v st hi) {B n:Nat} {u:Value} {us:List Value} (ho:w.ownsRow B 21 1 u n us) (hg:w.grownBy w' u.ownBlock):LdAt w' L v st hi:=by
 have ha:=h.apart ho;unfold LdAt at *;rw [hg.block L (LdAt.lt h) (fun e=>ha e.symm)];exact h
theorem LdAt.ok {j B:Nat} {x u:Value} {zs:List Int} (h:LdAt w L v st hi) (ho:Ok .i32 21 w B u zs):Ok .i32 21 (w.setCell ⟨L,j,none⟩ x) B u zs:=by
 refine ⟨ho.1,ho.2.1,x0t ho.2.2 fun g hg=>?_⟩;exact x0g _ (fun e=>h.apart ho.2.2 (by rw [<- e]; exact hg))
end
theorem y6i {w:World} {L:Nat} {v:Value} {st hi:Int} (h:LdAt w L v st hi) (k:Int):Calls prog 135 #[.pointer (some ⟨L,0,none⟩),.int .i64 k] w (fun e w'=>e=.returned (.bool (decide (k<=hi)))/\w'=w):=by
 have c2:=h.c2;clear h;go_enter func135,ntmps135;go_wp2;go_ret;exact ⟨rfl,rfl⟩
def LdS (cl:Int->Int) (w:World) (B L:Nat) (s:List Int × Int):Prop:=∃ v,LdAt w L v s.2 (Nm.hgh cl (Nm.bhd s))/\Ok .i32 21 w B v s.1/\B<=L
def LayB (cl:Int->Int) (B L:Nat) (w:World) (s:List Int × Int) (e:Ending) (w':World):Prop:=e=.returned (.tuple #[])/\LdS cl w' B L s/\Below B w w'
theorem x0W (w:World) {n:Nat} (hn:n=w.heap.size) (c:Int) (h:Rune c):Sk .i32 (w.alloc (.cells #[.int .i32 c] 21)) (.slice (some ⟨n,0,none⟩) 1 1) [c]:=by
 subst hn;exact z1H w [c] 1 rfl (by omega) (by omega) _ rfl (fun z hz=>(by simpa using hz:z=c) ▸ h)
theorem lay18 {cl:Int->Int} (aw:∀ c,0<=cl c/\cl c<=254) {w:World} {B L:Nat} {s:List Int × Int} (ae:Nm.In s) (hS:LdS cl w B L s) (c:Int) (hc:Rune c) (hl:s.1.length<=10000000):Calls prog 137 #[.pointer (some ⟨L,0,none⟩),.int .i32 c,.int .i64 (cl c)] w (LayB cl B L w (s.1++[c],if cl c=0 then (s.1.length:Int) else s.2)):=by
 obtain ⟨v,hA,hO,ad⟩:=hS;have hLs:=hA.lt;obtain ⟨ao,cap,hv,hv1,hv2⟩:=hO.sk.shape;subst hv;have c0:=hA.c0;have c1:=hA.c1;have c2:=hA.c2;have f0:=hA.fz 0;have f1:=hA.fz 1;have f2:=hA.fz 2;have HC:=O hc;have hk:=aw c;have aK:=Nm.y4a (cl:=cl) (Nm.bhd s);have aL:=Nm.y8l (cl:=cl) (fun c=>(aw c).2) (by omega) (Nm.bhd s);by_cases hz:cl c=0
 ·rw [if_pos hz,hz];have H1:=O ((hA.set1 (s.1.length:Int)).set2 (-1));have d1:=(hA.set1 (s.1.length:Int)).c2;have d2:=(hA.set1 (s.1.length:Int)).fz 2;have d3:=(V H1).c0;have aj:=O ((hA.set1 (s.1.length:Int)).ok (j:=2) (x:=.int .i64 (-1)) (hA.ok (j:=1) (x:=.int .i64 (s.1.length:Int)) hO));have ag:Hid (Below B w ((w.setCell ⟨L,1,none⟩ (.int .i64 (s.1.length:Int))).setCell ⟨L,2,none⟩ (.int .i64 (-1)))):=x0c (x0c (Below.refl B w) ad _) ad _
  have aa:Hid (∀ W W',LdAt W L (.slice ao s.1.length cap) (s.1.length:Int) (-1)->Ok .i32 21 W B (.slice ao s.1.length cap) s.1->Below B w W->∀ o v',Ok .i32 21 W' B v' (s.1++[c])->(W.alloc o).grownBy W' (Value.slice ao s.1.length cap).ownBlock->LdAt W' L (.slice ao s.1.length cap) (s.1.length:Int) (-1)/\LayB cl B L w (s.1++[c],(s.1.length:Int)) (.returned (.tuple #[])) (W'.setCell ⟨L,0,none⟩ v')):=fun W W' h1 h2 h3 o v' h4 h5=>by
   have h6:=(h1.below ((Below.refl W.heap.size W).alloc (l0r _) o)).grown (x0s h2 o).2.2 h5;have af:=h3.size;refine ⟨h6,rfl,⟨v',?_,h6.ok h4,ad⟩,x0c ((h3.alloc (by omega) o).grown h5 (by rw [x0m]; omega) (fun k hk=>(h2.2.2.lt k hk).1)) ad _⟩;show LdAt _ L v' (s.1.length:Int) (Nm.hgh cl (Nm.bhd (s.1++[c],(s.1.length:Int))));rw [Nm.y9F];exact h6.set0 v'
  have af:=(V ag).size;have aU:B<=w.heap.size:=(by omega);clear hA hO aw ae aK aL hc;generalize s.1=out at *;go_enter func137,ntmps137;go_wp2_with (at_builtin; refine x1f rfl (.tmp 32) (.tmp 34) rfl B _ _ out [c] rfl rfl (x0s (V aj) _) (x0W _ (by simp) c (V HC)) (by first | omega | (simp; omega)) (by rw [x0m]; omega) ?_);intro v' w' h4 h5;obtain ⟨g1,g2⟩:=V aa _ w' (V H1) (V aj) (V ag) _ v' h4 h5;have e1:=g1.c0;have e2:=g1.fz 0;have HF:=O g2;obtain ⟨aS,an,aC,_,_⟩:=h4.sk.shape;subst aC;rw [show (out++[c]).length=out.length+1 by simp] at HF;clear aa H1 aj ag g1 g2 h4 h5 d1 d2 d3 af c0 c1 c2 f0 f1 f2;go_wp2;go_end0;exact V HF
 ·rw [if_neg hz];have H1:=O (hA.set2 (max (Nm.hgh cl (Nm.bhd s)) (cl c)));have d3:=(V H1).c0;have aj:=O (hA.ok (j:=2) (x:=.int .i64 (max (Nm.hgh cl (Nm.bhd s)) (cl c))) hO);have ag:Hid (Below B w (w.setCell ⟨L,2,none⟩ (.int .i64 (max (Nm.hgh cl (Nm.bhd s)) (cl c))))):=x0c (Below.refl B w) ad _
  have aa:Hid (∀ W W',LdAt W L (.slice ao s.1.length cap) s.2 (max (Nm.hgh cl (Nm.bhd s)) (cl c))->Ok .i32 21 W B (.slice ao s.1.length cap) s.1->Below B w W->∀ o v',Ok .i32 21 W' B v' (s.1++[c])->(W.alloc o).grownBy W' (Value.slice ao s.1.length cap).ownBlock->LdAt W' L (.slice ao s.1.length cap) s.2 (max (Nm.hgh cl (Nm.bhd s)) (cl c))/\LayB cl B L w (s.1++[c],s.2) (.returned (.tuple #[])) (W'.setCell ⟨L,0,none⟩ v')):=fun W W' h1 h2 h3 o v' h4 h5=>by
   have h6:=(h1.below ((Below.refl W.heap.size W).alloc (l0r _) o)).grown (x0s h2 o).2.2 h5;have af:=h3.size;refine ⟨h6,rfl,⟨v',?_,h6.ok h4,ad⟩,x0c ((h3.alloc (by omega) o).grown h5 (by rw [x0m]; omega) (fun k hk=>(h2.2.2.lt k hk).1)) ad _⟩;show LdAt _ L v' s.2 (Nm.hgh cl (Nm.bhd (s.1++[c],s.2)));rw [Nm.y9E ae,Nm.y6J,show max (Nm.hgh cl (Nm.bhd s)) (max (cl c) (-1))=max (Nm.hgh cl (Nm.bhd s)) (cl c) by omega];exact h6.set0 v'
  have af:=(V ag).size;have aU:B<=w.heap.size:=(by omega);clear hA hO aw ae hc;have aP:(cl c==0)=false:=(by rw [beq_eq_false_iff_ne]; exact hz);generalize hmx:max (Nm.hgh cl (Nm.bhd s)) (cl c)=mx at *;generalize Nm.hgh cl (Nm.bhd s)=hh at *;generalize s.1=out at *;generalize s.2=st at *;generalize cl c=k at *;go_enter func137,ntmps137;go_wp2_with (at_builtin; refine x1f rfl (.tmp 32) (.tmp 34) rfl B _ _ out [c] rfl rfl (x0s (V aj) _) (x0W _ (by simp) c (V HC)) (by first | omega | (simp; omega)) (by rw [x0m]; omega) ?_);intro v' w' h4 h5;obtain ⟨g1,g2⟩:=V aa _ w' (V H1) (V aj) (V ag) _ v' h4 h5;have e1:=g1.c0;have e2:=g1.fz 0;have HF:=O g2;obtain ⟨aS,an,aC,_,_⟩:=h4.sk.shape;subst aC;rw [show (out++[c]).length=out.length+1 by simp] at HF;clear aa H1 aj ag g1 g2 h4 h5 d3 af c0 c1 c2 f0 f1 f2;go_wp2;go_end0;exact V HF
theorem Ok.setAt18 {K:IntKind} {e:TypeId} {w:World} {B g n cap:Nat} {zs:List Int} (h:Ok K e w B (.slice (some ⟨g,0,none⟩) n cap) zs) (k:Nat) (z:Int) (hz:Fit K [z]) :
  Ok K e (w.setCell ⟨g,k,none⟩ (.int K z)) B (.slice (some ⟨g,0,none⟩) n cap) (zs.set k z)/\w.frozen? ⟨g,k,none⟩=false:=by
 have aA:=h.row;rcases aA.2 with ⟨h0,_⟩ | ⟨g',an,cur,hv,hb,hh,hn,hcap,af,htake⟩
 ·cases h0
 ·simp only [Value.slice.injEq,Option.some.injEq,Addr.mk.injEq] at hv;obtain ⟨⟨rfl,_⟩,a5,rfl⟩:=hv;refine ⟨Ok.of (n:=zs.length) (us:=(zs.set k z).map (Value.int K)) ?_ (by simpa using h.sk.len) ⟨by simp,.inr ⟨g,cap,cur.setIfInBounds k (.int K z),by rw [a5],hb,x0f hh _,hn,hcap,by simpa using af,?_⟩⟩ (by simp) rfl,?_⟩
  ·intro y hy;rcases List.mem_or_eq_of_mem_set hy with hy | hy
   ·exact h.1 y hy
   ·subst hy; exact hz _ (by simp)
  ·rw [Nat.mul_one] at htake ⊢;rw [Array.toList_setIfInBounds,List.take_set,htake,<- List.map_set]
  ·simp [World.frozen?,hh]
theorem LdS.below {cl:Int->Int} {w w':World} {B L:Nat} {s:List Int × Int} (h:LdS cl w B L s) (hb:Bw w w'):LdS cl w' B L s:=by
 obtain ⟨v,h1,h2,h3⟩:=h;exact ⟨v,h1.below hb,h2.below hb,h3⟩
structure NmC (p:Nat) (cl:Int->Int) (cp:Int->Int->Int × Bool) (w0:World):Prop where
 cr:∀ c,0<=cl c/\cl c<=254
 pr:∀ a b,Rune a->Rune b->Rune (cp a b).1
 c:∀ c,Rune c->∀ W,Below w0.heap.size w0 W->Calls prog 134 #[.pointer (some ⟨p,0,none⟩),.int .i32 c] W (IntB W (cl c))
 k:∀ a b,Rune a->Rune b->∀ W,Below w0.heap.size w0 W->Calls prog 136 #[.pointer (some ⟨p,0,none⟩),.int .i32 a,.int .i32 b] W (fun e w'=>e=.returned (.tuple #[.int .i32 (cp a b).1,.bool (cp a b).2])/\w'=W)
theorem z2z {p:Nat} {cl:Int->Int} {cp:Int->Int->Int × Bool} {w0:World} (hN:NmC p cl cp w0) {w:World} {L:Nat} {s:List Int × Int} (hb:Bw w0 w) (ae:Nm.In s) (hS:LdS cl w w0.heap.size L s) (c:Int) (hc:Rune c) (hl:s.1.length<=10000000):Calls prog 96 #[.pointer (some ⟨L,0,none⟩),.pointer (some ⟨p,0,none⟩),.int .i32 c] w (LayB cl w0.heap.size L w (Nm.stp cl cp s c)):=by
 have KC:=O (hN.c c hc w hb);have aX:=hN.cr c;have ar:=hb.size;have KL:Hid (∀ W,Bw w W->Calls prog 137 #[.pointer (some ⟨L,0,none⟩),.int .i32 c,.int .i64 (cl c)] W (LayB cl w0.heap.size L w (s.1++[c],if cl c=0 then (s.1.length:Int) else s.2))):=fun W hW=>(lay18 hN.cr ae (hS.below hW) c hc hl).mono fun e w' h=>⟨h.1,h.2.1,(hW.mono ar).trans h.2.2⟩;have aK:=Nm.y4a (cl:=cl) (Nm.bhd s);have aL:=Nm.y8l (cl:=cl) (fun c=>(hN.cr c).2) (by omega) (Nm.bhd s);have hi1:=ae.1;have hi2:=ae.2;by_cases h0:s.2<0
 ·have a6:s.2=-1:=by omega
  have aq:Nm.stp cl cp s c=(s.1++[c],if cl c=0 then (s.1.length:Int) else s.2):=by
   unfold Nm.stp Nm.fits;rw [d0f (by omega)];rfl
  have ah:Hid (∀ W,Bw w W->W.cell? ⟨L,1,none⟩=some (.int .i64 (-1))):=fun W hW=>by
   obtain ⟨v,h1,_,_⟩:=hS.below hW;rw [<- a6]; exact h1.c1
  rw [aq];clear hN hS aq hb ae;generalize (s.1++[c],if cl c=0 then (s.1.length:Int) else s.2)=s2 at *;generalize cl c=k at *;go_enter func96,ntmps96;go_wp2_with fail;refine (V KC).mono ?_;rintro e w1 ⟨rfl,b1⟩;have x1:=V ah w1 b1;have K2:=O (V KL w1 b1);clear KC KL ah b1;go_wp2_with fail;refine (V K2).mono ?_;rintro e w2 h2;obtain ⟨rfl,h2⟩:=h2;have HF:=O h2;clear K2 h2;go_wp2;go_end0;exact ⟨rfl,V HF⟩
 ·obtain ⟨st,aq⟩:∃ st:Nat,s.2=(st:Int):=⟨s.2.toNat,by omega⟩;have aO:st<s.1.length:=(by omega);have aB:s.2.toNat=st:=(by omega);obtain ⟨v0,hA0,ak,ad⟩:=hS;obtain ⟨g,cap,hv,hcp,hcm⟩:=x8j ak.row (by omega);subst hv;have aV:w0.heap.size<=g:=(ak.2.2.lt g (by simp [Value.ownBlock])).1;have HA:Hid (∀ W,Bw w W->LdAt W L (.slice (some ⟨g,0,none⟩) s.1.length cap) (st:Int) (Nm.hgh cl (Nm.bhd s))/\Ok .i32 21 W w0.heap.size (.slice (some ⟨g,0,none⟩) s.1.length cap) s.1):=fun W hW=>⟨aq ▸ hA0.below hW,ak.below hW⟩;have aM:Rune (s.1.getD st 0):=x0x ak.sk aO
  have ax:Hid (∀ W,Bw w W->W.cell? ⟨g,st,none⟩=some (.int .i32 (s.1.getD st 0))):=fun W hW=>by
   obtain ⟨b3,o3,q3,e3,_,_,h3⟩:=(ak.below hW).sk.place (by omega);simp only [Value.slice.injEq,Option.some.injEq,Addr.mk.injEq] at e3;obtain ⟨⟨rfl,rfl,_⟩,_,_⟩:=e3;have h4:=h3 st aO;rwa [Nat.zero_add] at h4
  have KK:Hid (∀ W,Bw w W->Calls prog 136 #[.pointer (some ⟨p,0,none⟩),.int .i32 (s.1.getD st 0),.int .i32 c] W (fun e w'=>e=.returned (.tuple #[.int .i32 (cp (s.1.getD st 0) c).1,.bool (cp (s.1.getD st 0) c).2])/\w'=W)):=fun W hW=>hN.k _ _ aM hc W (x0b hb hW);have ay:=O (hN.pr _ _ aM hc)
  have ab:Hid ((Nm.blk cl (Nm.bhd s) (cl c)=true\/(cp (s.1.getD st 0) c).2=false)->Nm.stp cl cp s c=(s.1++[c],if cl c=0 then (s.1.length:Int) else s.2)):=fun h=>by
   unfold Nm.stp Nm.fits;rw [aB];rcases h with h | h <;> rw [h] <;> simp
  have ac:Hid (Nm.blk cl (Nm.bhd s) (cl c)=false->(cp (s.1.getD st 0) c).2=true->Nm.stp cl cp s c=(s.1.set st (cp (s.1.getD st 0) c).1,s.2)):=fun h1 h2=>by
   unfold Nm.stp Nm.fits;rw [aB,h1,h2,d0t (by omega)];rfl
  have aE:Hid (∀ q,Nm.bhd (s.1.set st q,s.2)=Nm.bhd s):=fun q=>by
   rcases Nm.hgh_fit s q with h | h
   ·rw [aB] at h; exact h
   ·omega
  have aF:=O (Nm.y9d (cl:=cl) (Nm.bhd s) aX.1)
  have KB:Hid (∀ W,Bw w W->Calls prog 135 #[.pointer (some ⟨L,0,none⟩),.int .i64 (cl c)] W (fun e w'=>e=.returned (.bool (Nm.blk cl (Nm.bhd s) (cl c)))/\w'=W)):=fun W hW=>by
   have:=y6i (V HA W hW).1 (cl c);rw [<- V aF] at this;exact this
  have ai:Hid (∀ q W,Rune q->Bw w W->W.frozen? ⟨g,st,none⟩=false/\LayB cl w0.heap.size L w (s.1.set st q,s.2) (.returned (.tuple #[])) (W.setCell ⟨g,st,none⟩ (.int .i32 q))):=fun q W hq hW=>by
   obtain ⟨a1,a2⟩:=V HA W hW;obtain ⟨o1,f1⟩:=a2.setAt18 st q (fun z hz=>by rw [List.mem_singleton] at hz; rw [hz]; exact x1X hq);refine ⟨f1,rfl,⟨.slice (some ⟨g,0,none⟩) s.1.length cap,?_,o1,ad⟩,x0c (hW.mono ar) aV _⟩;show LdAt _ L _ s.2 (Nm.hgh cl (Nm.bhd (s.1.set st q,s.2)));rw [V aE q,aq];have aZ:L≠g:=fun e=>a1.apart a2.2.2 (by rw [e]; rfl);unfold LdAt;rw [x0g _ aZ];exact a1
  clear hN hA0 ak hb ae aE aF;generalize Nm.blk cl (Nm.bhd s) (cl c)=bk at *;generalize (s.1++[c],if cl c=0 then (s.1.length:Int) else s.2)=s2 at *;have ah:Hid (∀ W,Bw w W->W.cell? ⟨L,1,none⟩=some (.int .i64 (st:Int))/\W.cell? ⟨L,0,none⟩=some (.slice (some ⟨g,0,none⟩) s.1.length cap)):=fun W hW=>⟨(V HA W hW).1.c1,(V HA W hW).1.c0⟩;generalize cl c=k at *
  cases bk with
  | true =>
   rw [V ab (.inl rfl)];clear ab ac ai HA KK ay ax;go_enter func96,ntmps96;go_wp2_with fail;refine (V KC).mono ?_;rintro e w1 ⟨rfl,b1⟩;obtain ⟨x1,x0⟩:=V ah w1 b1;have K1:=O (V KB w1 b1);have K2:=O (V KL w1 b1);clear KC KL ah KB b1;go_wp2_with fail;refine (V K1).mono ?_;rintro e w2 ⟨rfl,rfl⟩;clear K1;go_wp2_with fail;refine (V K2).mono ?_;rintro e w3 h3;obtain ⟨rfl,h3⟩:=h3;have HF:=O h3;clear K2 h3 x0 x1;go_wp2;go_end0;exact ⟨rfl,V HF⟩
  | false =>
   go_enter func96,ntmps96;go_wp2_with fail;refine (V KC).mono ?_;rintro e w1 ⟨rfl,b1⟩;obtain ⟨x1,x0⟩:=V ah w1 b1;have x3:=V ax w1 b1;have K1:=O (V KB w1 b1);have K2:Hid (∀ m:Nat,Calls prog 137 #[.pointer (some ⟨L,0,none⟩),.int .i32 c,.int .i64 k] (w1.drewN m) (LayB cl w0.heap.size L w s2)):=fun m=>V KL _ (x0b b1 (x0k ⟨m,rfl⟩));have K3:=fun m:Nat=>O (V KK (w1.drewN m) (x0b b1 (x0k ⟨m,rfl⟩)));have av:Hid (∀ W,Bw w1 W->W.frozen? ⟨g,st,none⟩=false/\LayB cl w0.heap.size L w (s.1.set st (cp (s.1.getD st 0) c).1,s.2) (.returned (.tuple #[])) (W.setCell ⟨g,st,none⟩ (.int .i32 (cp (s.1.getD st 0) c).1))):=fun W hW=>V ai _ W (V ay) (x0b b1 hW);clear KC KL ah KB KK ax ai HA ay b1;generalize (s.1.set st (cp (s.1.getD st 0) c).1,s.2)=s3 at *;generalize (cp (s.1.getD st 0) c).1=q at *;generalize (cp (s.1.getD st 0) c).2=ok at *;generalize s.1.getD st 0=a at *;generalize Nm.stp cl cp s c=s4 at *;generalize s.1.length=n at *;go_wp2_with fail;refine (V K1).mono ?_;rintro e w2 ⟨rfl,rfl⟩;clear K1
   cases ok with
   | false =>
    obtain rfl:s4=s2:=V ab (by simp);clear ab ac av;go_wp2;go_quiet (first | (go_at_call 136; exact Calls.quiet_of_same (V (K3 _))));clear K3;go_wp2_with fail;refine (V K2 _).mono ?_;rintro e w3 h3;obtain ⟨rfl,h3⟩:=h3;have HF:=O h3;clear K2 h3 x0 x1 x3;go_wp2;go_end0;exact ⟨rfl,V HF⟩
   | true =>
    obtain rfl:s4=s3:=V ac (by simp) (by simp);clear ab ac K2;go_wp2;go_quiet (first | (go_at_call 136; exact Calls.quiet_of_same (V (K3 _))));clear K3;go_wp2;have f3:=(V av w2 (b0r)).1;have aR:Hid (∀ m:Nat,LayB cl w0.heap.size L w s4 (.returned (.tuple #[])) ((w2.drewN m).setCell ⟨g,st,none⟩ (.int .i32 q))):=fun m=>(V av _ (x0k ⟨m,rfl⟩)).2;clear av;go_region;go_wp2;go_end0;exact V aR _
theorem z1M (n:Nat) (w:World) (B:Nat) (hB:B<=w.heap.size) (hn:n<=70000):∃ W,(Instr.makeSlice 23 (.int .i64 0) (.int .i64 (n:Int))).run prog w=.ok (.slice (some ⟨w.heap.size,0,none⟩) 0 n) W/\Ok .i32 21 W B (.slice (some ⟨w.heap.size,0,none⟩) 0 n) []/\w.grownBy W none:=by
 obtain ⟨i0,hi,a7,a8,aP⟩:=info_parts y4h;obtain ⟨W,h1,h2,h3⟩:=run_make_own (P:=prog) w B 23 21 i0 (.int .i32 0) 1 underlying23 hi a7 a8 .i64 .i64 n (by rw [aP]; omega) (by unfold maxLen; omega) hB;exact ⟨W,h1,Ok.of (fun z hz=>by cases hz) (by simp) h2 rfl rfl,h3⟩
theorem y1x {p:Nat} {cl:Int->Int} {cp:Int->Int->Int × Bool} {w:World} (hN:NmC p cl cp w) {xv:Value} {X:List Int} (hx:Sk .i32 w xv X) (au:X.length<=70000):Calls prog 59 #[.pointer (some ⟨p,0,none⟩),xv] w (x0i w (Nm.cps cl cp X)):=by
 have HC:Hid (∀ (k:Nat),k<X.length->∃ b off cap,xv=.slice (some ⟨b,off,none⟩) X.length cap/\∀ W,Bw w W->W.cell? ⟨b,off+k,none⟩=some (.int .i32 (X.getD k 0))):=fun k hk=>by
  obtain ⟨b,off,cap,he,_,_,hc⟩:=hx.place (by omega);exact ⟨b,off,cap,he,fun W hW=>by rw [hW.cell (x0a (hc k hk))]; exact hc k hk⟩
 have KT:Hid (∀ k L wr,k<X.length->Bw w wr->LdS cl wr w.heap.size L (Nm.run cl cp (X.take k))->Calls prog 96 #[.pointer (some ⟨L,0,none⟩),.pointer (some ⟨p,0,none⟩),.int .i32 (X.getD k 0)] wr (LayB cl w.heap.size L wr (Nm.run cl cp (X.take (k+1))))):=fun k L wr hk hb hS=>by
  rw [Nm.y0U hk];have hi:=Nm.y8B (cl:=cl) (cp:=cp) (X.take k);have:=hi.2;rw [List.length_take] at this;exact z2z hN hb hi.1 hS _ (x0x hx hk) (by omega)
 obtain ⟨W0,aY,aQ,g0⟩:=z1M X.length w w.heap.size (l0r _) au;have az:Bw w W0:=(b0r).grown g0 (l0r _) (fun k hk=>by cases hk);have aN:=az.size
 have aH:Hid (LdS cl (W0.alloc (.cells #[.slice (some ⟨w.heap.size,0,none⟩) 0 X.length,.int .i64 (-1),.int .i64 (-1)] 136)) w.heap.size W0.heap.size (Nm.run cl cp (X.take 0))):=by
  refine ⟨.slice (some ⟨w.heap.size,0,none⟩) 0 X.length,?_,x0s aQ _,aN⟩;show (W0.heap.push _)[W0.heap.size]?=_;rw [List.take_zero];simp;exact ⟨rfl,rfl⟩
 have aD:Hid (Bw w (W0.alloc (.cells #[.slice (some ⟨w.heap.size,0,none⟩) 0 X.length,.int .i64 (-1),.int .i64 (-1)] 136))):=az.alloc aN _
 have aa:Hid (∀ L wr,LdS cl wr w.heap.size L (Nm.run cl cp (X.take X.length))->Bw w wr->∃ v,wr.cell? ⟨L,0,none⟩=some v/\(∃ ao n cap,v=.slice ao n cap)/\x0i w (Nm.cps cl cp X) (.returned v) wr):=fun L wr h hb=>by
  rw [List.take_length] at h;obtain ⟨v,h1,h2,_⟩:=h;obtain ⟨ao,cap,e,_,_⟩:=h2.sk.shape;exact ⟨v,h1.c0,⟨ao,_,cap,e⟩,v,rfl,h2,hb⟩
 obtain ⟨ao,cap,rfl,_,_⟩:=hx.shape;clear hN hx aQ g0 az;generalize Nm.cps cl cp X=out at *;go_enter func59,ntmps59;go_wp2;generalize hLe:W0.heap.size=L at *;clear hLe;go_loopw [7,14] (fun _ iv wr=>∃ k:Nat,iv=.int .i64 k/\k<=X.length/\LdS cl wr w.heap.size L (Nm.run cl cp (X.take k))/\Bw w wr) (fun _ iv _=>X.length - (intOf iv).toNat)
 case atStart=>exact ⟨0,rfl,by omega,V aH,V aD⟩
 case round =>
  obtain ⟨k,rfl,hk,hS,al⟩:=hrel;clear aH aD aY;by_cases hlt:k<X.length
  ·have hL:(k:Int)<X.length:=(by omega);obtain ⟨b,off,cp',he,aJ⟩:=V HC k hlt;simp only [Value.slice.injEq] at he;obtain ⟨rfl,-,rfl⟩:=he;have x4:=aJ wr al;have K:=O (V KT k L wr hlt al hS);have aG:=O al;have am:Hid (∀ W,LdS cl W w.heap.size L (Nm.run cl cp (X.take (k+1)))->Bw w W->∃ n:Nat,Value.int .i64 ((k:Int)+1)=.int .i64 (n:Int)/\n<=X.length/\LdS cl W w.heap.size L (Nm.run cl cp (X.take n))/\Bw w W):=fun W h1 h2=>⟨k+1,by go_num,by omega,h1,h2⟩;clear hS aJ al HC KT aa;generalize Nm.run cl cp (X.take (k+1))=s2 at *;generalize X.getD k 0=c at *;go_wp2_with fail;refine (V K).mono ?_;rintro e w1 ⟨rfl,h1,h2⟩;have HF:=O (V am w1 h1 ((V aG).trans h2));clear K aG am h1 h2 x4;go_wp2
   go_roundw
   case rel=>exact V HF
   case measure=>simp [intOf]; omega
  ·have aW:k=X.length:=(by omega);subst aW;obtain ⟨v,x1,⟨aI,n2,ap,rfl⟩,hF⟩:=V aa L wr hS al;have HF:=O hF;clear hS al HC KT aa hF;go_wp2;go_ret;exact V HF
def NfdC (p:Nat) (nf:List Int->List Int) (w0:World):Prop:=(∀ X,(nf X).length<=32 * X.length)/\∀ xv X W,Below w0.heap.size w0 W->Sk .i32 W xv X->X.length<=2000->Calls prog 58 #[.pointer (some ⟨p,0,none⟩),xv] W (fun e w'=>∃ v,e=.returned (.tuple #[v,.int .i64 0])/\Ok .i32 21 w' W.heap.size v (nf X)/\Below W.heap.size W w')
theorem NmC.on {p:Nat} {cl:Int->Int} {cp:Int->Int->Int × Bool} {w W:World} (h:NmC p cl cp w) (hb:Bw w W):NmC p cl cp W:=⟨h.cr,h.pr,fun c hc W' hW=>h.c c hc W' (x0b hb hW),fun a b ha hb' W' hW=>h.k a b ha hb' W' (x0b hb hW)⟩
theorem nfc18 {p:Nat} {cl:Int->Int} {cp:Int->Int->Int × Bool} {nf:List Int->List Int} {w:World} (hN:NmC p cl cp w) (hF:NfdC p nf w) {xv:Value} {X:List Int} (hx:Sk .i32 w xv X) (au:X.length<=2000):Calls prog 34 #[.pointer (some ⟨p,0,none⟩),xv] w (fun e w'=>∃ v,e=.returned (.tuple #[v,.int .i64 0])/\Ok .i32 21 w' w.heap.size v (Nm.cps cl cp (nf X))/\Bw w w'):=by
 have K:=O (hF.2 xv X w (b0r) hx au);have hnl:=hF.1 X;have KC:Hid (∀ W yv,Bw w W->Sk .i32 W yv (nf X)->Calls prog 59 #[.pointer (some ⟨p,0,none⟩),yv] W (x0i W (Nm.cps cl cp (nf X)))):=fun W yv hW hy=>y1x (hN.on hW) hy (by omega);obtain ⟨ao,cap,rfl,_,_⟩:=hx.shape;clear hN hF hx;generalize Nm.cps cl cp (nf X)=out at *;generalize nf X=Y at *;go_enter func34,ntmps34;go_wp2_with fail;refine (V K).mono ?_;rintro e w1 ⟨v1,rfl,o1,b1⟩;have K2:=O (V KC w1 v1 b1 o1.sk);obtain ⟨aT,cap1,hv1,_,_⟩:=o1.sk.shape;subst hv1;have HB:=O b1;have af:=b1.size;clear K KC o1 b1;go_wp2_with fail;refine (V K2).mono ?_;rintro e w2 ⟨v2,rfl,o2,b2⟩;obtain ⟨aI,ap,hv2,_,_⟩:=o2.sk.shape;subst hv2;have HF:Hid (Ok .i32 21 w2 w.heap.size (.slice aI out.length ap) out/\Bw w w2):=⟨o2.lower af,x0b (V HB) b2⟩;clear K2 o2 b2 HB;go_wp2;go_ret2;exact ⟨_,rfl,V HF⟩
theorem isN18 {p:Nat} {cl:Int->Int} {cp:Int->Int->Int × Bool} {nf:List Int->List Int} {w:World} (hN:NmC p cl cp w) (hF:NfdC p nf w) {xv:Value} {X:List Int} (hx:Sk .i32 w xv X) (au:X.length<=2000):Calls prog 15 #[.pointer (some ⟨p,0,none⟩),xv] w (fun e w'=>e=.returned (.tuple #[.bool (decide (X=Nm.cps cl cp (nf X))),.int .i64 0])/\Bw w w'):=by
 have K:=O (nfc18 hN hF hx au);have KE:Hid (∀ W yv,Bw w W->Sk .i32 W yv (Nm.cps cl cp (nf X))->Calls prog 33 #[xv,yv] W (x0d W (decide (X=Nm.cps cl cp (nf X))))):=fun W yv hW hy=>(y0n xv yv X _ W (hx.below hW) hy).mono fun _ _ h=>⟨h.1,x0k h.2⟩;obtain ⟨ao,cap,rfl,_,_⟩:=hx.shape;clear hN hF hx;generalize Nm.cps cl cp (nf X)=out at *;generalize decide (X=out)=bb at *;go_enter func15,ntmps15;go_wp2_with fail;refine (V K).mono ?_;rintro e w1 ⟨v1,rfl,o1,b1⟩;have K2:=O (V KE w1 v1 b1 o1.sk);obtain ⟨aT,cap1,hv1,_,_⟩:=o1.sk.shape;subst hv1;have HB:=O b1;clear K KE o1 b1;go_wp2_with fail;refine (V K2).mono ?_;rintro e w2 ⟨rfl,b2⟩;have HF:=O (x0b (V HB) b2);clear K2 HB b2;go_wp2;go_ret2;exact ⟨rfl,V HF⟩
