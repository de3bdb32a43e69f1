/- Lemmas. -/
import Derived.Test.YtkfcabdmkmljjaaGreatDoorF5
import Derived.Defers
import Derived.Recover
import Derived.Shelf.SlSortCmp.WholeK
set_option maxHeartbeats 4000000
set_option maxRecDepth 8000
namespace Go.Proofs.YtkfcabdmkmljjaaGreatDoor
open Go.Proofs.Tryz
open Go.RowKit
section
variable{p:Prop}
theorem R8h(h:p:=by
 unfold fam at h;split at h
 ·omega
 ·omega):p:=h
theorem r2C(h:p:=by
 unfold fam;split
 ·intro e;omega
 ·omega):p:=h
theorem r2m(h:p:=by simp[Act.eval,Array.replicate]):p:=h
theorem V3d(h:p:=by go_enter func139,ntmps139;go_wp2_with fail;refine c0m G fun Q E=>?_;subst Q;go_wp2_with fail;refine c0m l fun Q E=>?_;subst Q;go_wp2_with fail;refine c0m j fun Q E=>?_;subst Q;go_wp2;go_ret;exact⟨rfl,rfl⟩):p:=h
theorem s8h(h:p:=by rw[h];exact e8M):p:=h
theorem v6g(h:p:=by push_cast;rw[Int.add_mul];exact f6J):p:=h
theorem t0t(h:p:=by go_enter func184,ntmps184;exact t6u):p:=h
theorem V9e(h:p:=by
 constructor
 ·intro h;cases h
 ·rintro⟨k,_,D,_⟩;have:=Int.mul_nonneg (f6J:(0:Int)<=k) L;omega):p:=h
theorem w8p(h:p:=by show 0<1;exact f6J):p:=h
theorem M1m(h:p:=by go_enter func183,ntmps183;go_wp2_with(go_at_call 237;refine(V K _ _).mono ?_;rintro e Q ⟨rfl,rfl⟩);go_ret;exact g9T):p:=h
theorem p3X(h:p:=by
 rcases Int.lt_or_le 0 j with D | D
 ·have:s*1<=s*j:=Int.mul_le_mul_of_nonneg_left f6J f6J;omega
 ·have:=Int.mul_nonpos_of_nonneg_of_nonpos (f6J:0<=s) D;omega):p:=h
theorem p0c(h:p:=by go_enter func139,ntmps139;go_wp2_with fail;refine c0m G fun Q E=>?_;subst Q;go_wp2_with fail;refine c0m l fun Q E=>?_;subst Q;go_wp2;go_ret;exact⟨rfl,rfl⟩):p:=h
theorem r5J(h:p:=by rintro e Q ⟨rfl,rfl⟩;go_wp2;go_ret;exact⟨rfl,V C⟩):p:=h
theorem s4R(h:p:=by simpa using R):p:=h
theorem V6s(h:p:=by simpa using d):p:=h
theorem w8c(h:p:=by simp[List.getD,G]):p:=h
end
theorem q0W w:(Instr.typeAssert .nilIface 20 29 true).run prog w=.ok (.tuple #[.int .i64 0,.bool false]) w:=f4x
theorem ta_ok n w:(Instr.typeAssert (.iface 29 (.int .i64 n)) 20 29 true).run prog w=.ok (.tuple #[.int .i64 n,.bool true]) w:=f4x
theorem y5g p q w:CallsD prog 238 #[.pointer (some p),.pointer (some q)] .returning w fun e a w'=>e=.returned (.tuple #[])/\a=.returning/\w'=w:=by
  refine callsD_of_wpS func238 rfl fun c₀ Y d=>?_;apply wpS_seq;apply wpS_region;simp[wpOpsS,go_sem,recoverD,d,ntmps238,Exit.thenS,q0W];apply wpS_seq;apply wpS_region;simp[wpOpsS,go_sem,Exit.thenS];refine wpS_cond (t:=false) r2m ?_;simp only[Bool.false_eq_true,if_false];refine wpS_of_wp (wp_skip ?_);cases c₀;simp_all [bodyPostS,results,Tryz.results238]
theorem y5f p q n x y(A:List PanicEntry) w(s:w.cell? p=some x)(B:w.frozen? p=false)(d:(w.setCell p (.slice none 0 0)).cell? q=some y)(C:(w.setCell p (.slice none 0 0)).frozen? q=false) :
    CallsD prog 238 #[.pointer (some p),.pointer (some q)] (.panicking ({ v:=.iface 29 (.int .i64 n),recovered:=false }::A)) w fun e a w' =>
      e=.returned (.tuple #[])/\a=.panicking ({ v:=.iface 29 (.int .i64 n),recovered:=true }::A)/\w'=(w.setCell p (.slice none 0 0)).setCell q (.int .i64 n):=by
  refine callsD_of_wpS func238 rfl fun c₀ Y F=>?_;apply wpS_seq;apply wpS_region;simp[wpOpsS,go_sem,recoverD,F,ntmps238,Exit.thenS,ta_ok];apply wpS_seq;apply wpS_region;simp[wpOpsS,go_sem,Exit.thenS];refine wpS_cond (t:=true) r2m ?_;simp only[if_true];apply wpS_region;simp[wpOpsS,go_sem,s,B,d,C,bodyPostS,results,Tryz.results238]
def fw(w:World)(fv:Value):World:=((w.alloc (.cells #[.slice none 0 0] 36)).alloc (.cells #[.int .i64 0] 29)).alloc (.cells #[fv,.slice none 0 0,.slice none 0 0] 314)
theorem z9P w fv:(fw w fv).heap[w.heap.size]?=some (.cells #[.slice none 0 0] 36 (0,0))/\(fw w fv).heap[w.heap.size+1]?=some (.cells #[.int .i64 0] 29 (0,0))/\(fw w fv).heap[w.heap.size+2]?=some (.cells #[fv,.slice none 0 0,.slice none 0 0] 314 (0,0))/\(fw w fv).heap.size=w.heap.size+3:=by
  have e:(fw w fv).heap=((w.heap.push (.cells #[.slice none 0 0] 36 (0,0))).push (.cells #[.int .i64 0] 29 (0,0))).push (.cells #[fv,.slice none 0 0,.slice none 0 0] 314 (0,0)):=rfl;rw[e];refine⟨?_,?_,?_,M7K⟩
  · grind
  · grind
  · rw[Array.getElem?_push];simp
theorem z9Q w fv:Wk w.heap.size (fw w fv) (w.heap.size+2) fv [] [] (.slice none 0 0) (.slice none 0 0) :=
  ⟨(z9P w fv).2.2.1,f6J,Ok.nil _ _ _ _,Ok.nil _ _ _ _,fun g h=>by simp[Value.ownBlock]at h⟩
theorem y4c w fv:Bw w (fw w fv):=(((b0r).alloc (l0r _) _).alloc M7M _).alloc P8P _
theorem y4b{w w1 fv v out n}(C:Frm (fw w fv) w1 (w.heap.size+2) (.slice none 0 0) (.slice none 0 0))(N:Ok .i32 21 w1 w.heap.size v out) :
    w1.heap[w.heap.size]?=some (.cells #[.slice none 0 0] 36 (0,0))/\w1.heap[w.heap.size+1]?=some (.cells #[.int .i64 0] 29 (0,0)) /\
    (∀u,((w1.setCell ⟨w.heap.size,0,none⟩ u).setCell ⟨w.heap.size+1,0,none⟩ (.int .i64 n)).heap[w.heap.size]?=some (.cells #[u] 36 (0,0)) /\
     ((w1.setCell ⟨w.heap.size,0,none⟩ u).setCell ⟨w.heap.size+1,0,none⟩ (.int .i64 n)).heap[w.heap.size+1]?=some (.cells #[.int .i64 n] 29 (0,0)) /\
     (w1.setCell ⟨w.heap.size,0,none⟩ u).heap[w.heap.size+1]?=some (.cells #[.int .i64 0] 29 (0,0)) /\
     Bw w ((w1.setCell ⟨w.heap.size,0,none⟩ u).setCell ⟨w.heap.size+1,0,none⟩ (.int .i64 n)) /\
     Ok .i32 21 ((w1.setCell ⟨w.heap.size,0,none⟩ u).setCell ⟨w.heap.size+1,0,none⟩ (.int .i64 n)) w.heap.size v out):=by
  obtain⟨W,T,P,f⟩:=z9P w fv;have x:w1.heap[w.heap.size]?=some (.cells #[.slice none 0 0] 36 (0,0)):=(by rw[C.keep _ f6J f6J V3I V3I];exact W);have L:w1.heap[w.heap.size+1]?=some (.cells #[.int .i64 0] 29 (0,0)):=(by rw[C.keep _ f6J f6J V3I V3I];exact T);refine⟨x,L,fun u=>?_⟩;have l:(w1.setCell ⟨w.heap.size,0,none⟩ u).heap[w.heap.size+1]?=some (.cells #[.int .i64 0] 29 (0,0)):=(by rw[x0e _ f6J];exact L);refine⟨?_,?_,l,?_,?_⟩
  · rw[x0e _ f6J,x0c x];rfl
  · rw[x0c l];rfl
  · have Y:Bw w w1:=(y4c w fv).trans (C.below (z9Q w fv) f6J)
    exact x0b (x0b Y (l0r _) u) f6J _
  · refine N.keep fun g Z=>?_
    obtain⟨t,I⟩:=z0h N Z;have M:g≠w.heap.size:=fun e=>(by subst e;rw[x]at I;simp at I);have a:g≠w.heap.size+1:=fun e=>(by subst e;rw[L]at I;simp at I);rw[x0e _ a,x0e _ M]
theorem fullK g fa cb rs w(m:y1Y g fa cb rs w)(eg:∀args w,(callFunc g args).run prog w=.ok (.enter g args) w)(B:∀c,(Cn.opn rs c).length<=1000000000) c(I:Rune c) :
    Calls prog 188 #[.func (.func g) fa cb,.int .i32 c] w (x7H w (Cn.full rs c)):=by
  have K:=O (z2F g fa cb rs w m eg B 16 [] c [] (fw w (.func (.func g) fa cb)) (w.heap.size+2) _ _ M7L M7L I (y4c w _) (z9Q w _));have z:∀(fn:Fn) (first M:Array Value) (w:World),(Instr.makeFunc fn first M).run prog w=.ok (.func fn first M) w:=fun _ _ _ _=>rfl;have b:=Cn.x4g rs c;have Z:=Cn.y4L rs 16 [] c [];change Hid (Calls _ _ _ _ (x5A _ _ _ _ _ _ _ (Cn.full rs c)))at K;change (Cn.full rs c).2≠0->(Cn.full rs c).1=[]at Z;generalize Cn.full rs c=r at *;have D:Hid (r.2≠0->r.1=[]):=Z;go_enter_defers func188,ntmps188;go_wp2_with fail;refine(V K).mono ?_;rintro P Q ⟨hf,⟨y,Y⟩ | ⟨U,rfl,ab,N,G,t,E⟩⟩
  · unfold Gave at Y
    subst Y;obtain⟨x,k1,A⟩:=y4b (n:=r.2) hf (Ok.nil _ _ _ _);obtain⟨k,l,L,H,X⟩:=A (.slice none 0 0);have T:x7H w r (.returned (.tuple #[.slice none 0 0,.int .i64 r.2])) ((Q.setCell ⟨w.heap.size,0,none⟩ (.slice none 0 0)).setCell ⟨w.heap.size+1,0,none⟩ (.int .i64 r.2)):=⟨_,rfl,by rw[V D y];exact X,H⟩;have o:=cell_of (j:=0) k w8p;have C:=cell_of (j:=0) l w8p;refine leaves_cons (f:=238) (args:=#[.pointer (some ⟨w.heap.size,0,none⟩),.pointer (some ⟨w.heap.size+1,0,none⟩)]) M7L (by simp[go_sem]) ?_;refine(y5f ⟨w.heap.size,0,none⟩ ⟨w.heap.size+1,0,none⟩ r.2 _ _ [] Q (cell_of (j:=0) x w8p) (x0d x) (cell_of (j:=0) L w8p) (x0d L)).mono ?_;rintro e a u ⟨rfl,rfl,rfl⟩;generalize(Q.setCell ⟨w.heap.size,0,none⟩ (.slice none 0 0)).setCell ⟨w.heap.size+1,0,none⟩ (.int .i64 r.2)=W at *;have i:W.cell? ⟨w.heap.size,0,none⟩=some (.slice none 0 0):=o;have p:W.cell? ⟨w.heap.size+1,0,none⟩=some (.int .i64 r.2):=C;simp[Leaves,settle,results,Tryz.results188,go_sem,i,p];exact T
  · obtain⟨J,M,rfl,_,_⟩:=G.e.sk.shape
    obtain⟨x,k1,A⟩:=y4b (n:=0) hf G.e;obtain⟨k,l,L,H,X⟩:=A (.slice J r.1.length M);have T:x7H w r (.returned (.tuple #[.slice J r.1.length M,.int .i64 0])) ((Q.setCell ⟨w.heap.size,0,none⟩ (.slice J r.1.length M)).setCell ⟨w.heap.size+1,0,none⟩ (.int .i64 0)):=⟨_,by rw[U],X,H⟩;have S:Q.cell? ⟨w.heap.size+1+1,2,none⟩=some (.slice J r.1.length M):=cell_of (j:=2) G.blk U4t;have R:Q.cell? ⟨w.heap.size,0,none⟩=some (.slice none 0 0):=cell_of (j:=0) x w8p;have F:Q.cell? ⟨w.heap.size+1,0,none⟩=some (.int .i64 0):=cell_of (j:=0) k1 w8p;have f0:=x0d (j:=0) x;have s:=x0d (j:=0) k1;have q1:(Q.setCell ⟨w.heap.size,0,none⟩ (.slice J r.1.length M)).cell? ⟨w.heap.size+1,0,none⟩=some (.int .i64 0):=cell_of (j:=0) L w8p;have v:=x0d (j:=0) L;have o:((Q.setCell ⟨w.heap.size,0,none⟩ (.slice J r.1.length M)).setCell ⟨w.heap.size+1,0,none⟩ (.int .i64 0)).cell? ⟨w.heap.size,0,none⟩=some (.slice J r.1.length M):=cell_of (j:=0) k w8p;have C:((Q.setCell ⟨w.heap.size,0,none⟩ (.slice J r.1.length M)).setCell ⟨w.heap.size+1,0,none⟩ (.int .i64 0)).cell? ⟨w.heap.size+1,0,none⟩=some (.int .i64 0):=cell_of (j:=0) l w8p;have d:=O o;have q:=O C;go_wp2;refine leaves_cons (f:=238) (args:=#[.pointer (some ⟨w.heap.size,0,none⟩),.pointer (some ⟨w.heap.size+1,0,none⟩)]) M7L (by simp[go_sem]) ?_;refine(y5g ⟨w.heap.size,0,none⟩ ⟨w.heap.size+1,0,none⟩ _).mono ?_;rintro e a u ⟨rfl,rfl,rfl⟩;have o:=V d;have C:=V q;simp[Leaves,settle,results,Tryz.results188,go_sem,o,C];exact T
end Go.Proofs.YtkfcabdmkmljjaaGreatDoor
namespace Go.Proofs.YtkfcabdmkmljjaaGreatDoor.Cn
open Go.Proofs.Tryz
def x9o(lo hi s x:Int):Prop:=lo<=x/\x<=hi/\s∣x-lo
theorem y4C{lo1 hi1 s1 lo2 hi2 s2 c0:Int}{N:Nat}(Z:0<s1)(D:0<s2)(o:s2<=N)(E:lo1<=c0)(Y:lo2<=c0)(hd:s1∣c0-lo1)(F:∀x,lo1<=x->lo2<=x->s1∣x-lo1->c0<=x) :
  (∃x,x9o lo1 hi1 s1 x/\x9o lo2 hi2 s2 x)↔∃k:Nat,k<N/\c0+k*s1<=hi1/\c0+k*s1<=hi2/\s2∣c0+k*s1-lo2:=by
 constructor
 ·rintro⟨x,⟨T,P,f⟩,b1,i,G⟩;have S:=F x T b1 f
  obtain⟨j,R⟩:s1∣x-c0:=by
   have:=Int.dvd_sub f hd;rwa [(f6J:x-lo1-(c0-lo1)=x-c0)]at this
  have d:0<=j:=by
   rcases Int.lt_or_le j 0 with h | h
   ·have:=Int.mul_neg_of_pos_of_neg Z h;omega
   ·exact h
  have r:=Int.emod_nonneg j (f6J:s2≠0);have H:=Int.emod_lt_of_pos j D
  have A:j%s2<=j:=by
   have:=Int.emod_add_mul_ediv j s2;have:=Int.mul_nonneg (f6J:0<=s2) (Int.ediv_nonneg d (f6J:0<=s2));omega
  have v:j%s2*s1<=x-c0:=by
   rw[R,Int.mul_comm s1 j];exact Int.mul_le_mul_of_nonneg_right A f6J
  refine⟨(j%s2).toNat,f6J,?_,?_,?_⟩
  ·rw[Int.toNat_of_nonneg r];omega
  ·rw[Int.toNat_of_nonneg r];omega
  ·rw[Int.toNat_of_nonneg r];have e:c0+j%s2*s1-lo2=(x-lo2)-(j-j%s2)*s1:=(by grind);rw[e];refine Int.dvd_sub G (Int.dvd_mul_of_dvd_left ?_);exact Int.dvd_self_sub_emod
 ·rintro⟨k,_,L,Q,u⟩;have C:0<=(k:Int)*s1:=Int.mul_nonneg f6J f6J;refine⟨c0+k*s1,⟨f6J,L,?_⟩,f6J,Q,u⟩;rw[(f6J:c0+(k:Int)*s1-lo1=(c0-lo1)+k*s1)];exact Int.dvd_add hd (Int.dvd_mul_left _ _)
theorem x0J{r}(h:right r=0)(G:r.kind≠15) c:speaks r c=true↔x9o r.lo r.hi (step r) c:=by
 have L:=right_step h;have s:=x0q h G;unfold speaks x9o;rw[decide_eq_true_iff];constructor
 ·omega
 ·omega
theorem x8g(b:Rec){s hi:Int}(L:0<=s):∀(n:Nat) (c:Int),clashA b s hi n c=true↔∃k:Nat,k<n/\c+k*s<=hi/\speaks b (c+k*s)=true
 | 0,c=>by simp[clashA]
 | n+1,c=>by
  rw[clashA];split
  ·next hc =>
   rw[Bool.or_eq_true,x8g b L n];constructor
   ·rintro(h | ⟨k,Z,D,J⟩)
    ·exact⟨0,f6J,by simpa using hc,by simpa using h⟩
    ·refine⟨k+1,f6J,?_,?_⟩
     ·rw[(v6g:c+((k+1:Nat):Int)*s=c+s+k*s)];exact D
     ·rw[(v6g:c+((k+1:Nat):Int)*s=c+s+k*s)];exact J
   ·rintro⟨k,Z,D,J⟩
    cases k with
    | zero=>left;exact I8X
    | succ k =>
     right;rw[(v6g:c+((k+1:Nat):Int)*s=c+s+k*s)]at D J;exact⟨k,f6J,D,J⟩
  ·next hc =>
   exact V9e
theorem y8L{lo1 lo2 s}(h:0<s){c0:Int}(I:c0=if lo1<lo2 then lo1+(lo2-lo1+s-1) / s*s else lo1) :
  lo1<=c0/\lo2<=c0/\s∣c0-lo1/\∀x,lo1<=x->lo2<=x->s∣x-lo1->c0<=x:=by
 by_cases S:lo1<lo2
 ·rw[if_pos S]at I;have e:=Int.emod_add_mul_ediv (lo2-lo1+s-1) s;have v:=Int.emod_nonneg (lo2-lo1+s-1) (f6J:s≠0);have P:=Int.emod_lt_of_pos (lo2-lo1+s-1) h;rw[Int.mul_comm]at e;have A:s∣(lo2-lo1+s-1) / s*s:=Int.dvd_mul_left _ _;generalize(lo2-lo1+s-1) / s*s=q at *;subst I;refine⟨f6J,f6J,by rw[(f6J:lo1+q-lo1=q)];exact A,fun x a b d=>?_⟩;obtain⟨j,R⟩:=Int.dvd_sub A d;exact p3X
 ·simp_all
theorem x1L{a b}(E:right a=0)(Y:right b=0)(C:fam a.kind=fam b.kind)(G:a.kind≠15)(K:b.kind≠15):clash a b=true↔∃c,speaks a c=true/\speaks b c=true:=by
 have H:=right_step E;have L:=right_step Y;unfold clash;rw[if_neg (by simp[C]),if_neg G,x8g b f6J];obtain⟨s,M,r,B⟩:=y8L (lo1:=a.lo) (lo2:=max a.lo b.lo) (f6J:0<step a) rfl;generalize(if a.lo<max a.lo b.lo then a.lo+(max a.lo b.lo-a.lo+step a-1) / step a*step a else a.lo)=c0 at *;have:=y4C (hi1:=a.hi) (hi2:=b.hi) (N:=64) (lo1:=a.lo) (lo2:=b.lo) (s1:=step a) (s2:=step b) (c0:=c0) f6J f6J f6J s f6J r (fun x p q d=>B x p f6J d);constructor
 ·rintro⟨k,Z,D,J⟩;rw[x0J Y K]at J;obtain⟨x,A,g⟩:=this.2 ⟨k,Z,f6J,f6J,J.2.2⟩;exact⟨x,(x0J E G x).2 A,(x0J Y K x).2 g⟩
 ·rintro⟨x,A,g⟩;obtain⟨k,Z,D,J,F⟩:=this.1 ⟨x,(x0J E G x).1 A,(x0J Y K x).1 g⟩;refine⟨k,Z,f6J,(x0J Y K _).2 ⟨?_,J,F⟩⟩;have:=Int.mul_nonneg (f6J:(0:Int)<=k) (f6J:0<=step a);omega
theorem x9g{k}(h:fam k=10):k=15:=R8h
theorem y5m{a b}(E:right a=0)(Y:right b=0):clash a b=clash b a:=by
 by_cases C:fam a.kind=fam b.kind
 ·by_cases G:a.kind=15
  ·have K:b.kind=15:=x9g (by rw[<- C,G];exact e8M);unfold clash;rw[if_neg (by simp[C]),if_pos G,if_neg (by simp[C]),if_pos K];refine decide_eq_decide.2 ⟨?_,?_⟩
   ·grind
   ·rintro(⟨Z,D⟩ | ⟨Z,D⟩)
    ·exact .inl ⟨Z.symm,D.symm⟩
    ·exact .inr ⟨D.symm,Z.symm⟩
  ·have K:b.kind≠15:=fun e=>G (x9g (by rw[C,e];exact e8M));have Z:=x1L E Y C G K;have D:=x1L Y E C.symm K G;rw[Bool.eq_iff_iff,Z,D];constructor<;>exact fun⟨c,p,q⟩=>⟨c,q,p⟩
 ·unfold clash;rw[if_pos C,if_pos (fun e=>C e.symm)]
end Go.Proofs.YtkfcabdmkmljjaaGreatDoor.Cn
namespace Go.Proofs.YtkfcabdmkmljjaaGreatDoor.Cn
open Go.Proofs.Tryz
theorem getD_at{l:List Rec}{k}(h:k<l.length):l.getD k none=l[k]:=p8I
theorem x7z{l:List Rec}:∀(n i:Nat),l.length-i=n->i<=l.length->(x1z l i (l.drop i)=Option.none↔∀j,i<=j->(R:j<l.length)->∀k,(G:k<j)->clash l[k] l[j]=false)
 | 0,i,hn,hi=>by
  rw[List.drop_eq_nil_of_le f6J,x1z];exact⟨fun _ j a b=>f6J,fun _=>rfl⟩
 | n+1,i,hn,hi=>by
  have S:i<l.length:=f6J;rw[List.drop_eq_getElem_cons S,x1z];have B:=x7z (l:=l) n (i+1) f6J S
  have C:((l.take i).any fun k=>clash k l[i])=true↔∃k,∃G:k<i,clash l[k] l[i]=true:=by
   rw[List.any_eq_true];constructor
   ·rintro⟨x,A,I⟩;obtain⟨k,G,rfl⟩:=List.mem_take_iff_getElem.1 A;exact⟨k,f6J,I⟩
   ·rintro⟨k,G,I⟩;exact⟨l[k],List.mem_take_iff_getElem.2 ⟨k,f6J,rfl⟩,I⟩
  split
  ·next h =>
   obtain⟨k,G,I⟩:=C.1 h;exact⟨fun h=>(nomatch h),fun h=>by rw[h i (l0r _) S k G]at I;cases I⟩
  ·next h =>
   rw[B];constructor
   ·intro D j hij R k G;rcases Nat.eq_or_lt_of_le hij with rfl | hij
    ·exact Bool.eq_false_iff.2 fun I=>h (C.2 ⟨k,G,I⟩)
    ·exact D j hij R k G
   ·exact fun D j hij R k G=>D j f6J R k G
theorem x7p:∀(l:List Rec) (i:Nat),x1b i l=Option.none↔∀r∈l,right r=0
 | [],_=>⟨fun _ r hr=>absurd hr M7K,fun _=>rfl⟩
 | x::l,i=>by
  rw[x1b,List.forall_mem_cons];split
  ·next h=>rw[x7p l];exact⟨fun a=>⟨h,a⟩,fun a=>a.2⟩
  ·next h=>exact⟨fun a=>(nomatch a),fun a=>absurd a.1 h⟩
theorem x0k{l}:(check6 l).2=0↔l.length<=4096/\(∀r∈l,right r=0)/\l.Pairwise fun a b=>clash a b=false:=by
 have K:=x7z (l:=l) l.length 0 f6J f6J;rw[List.drop_zero]at K;have X:=x7p l 0;rw[List.pairwise_iff_getElem];unfold check6;split
 ·omega
 ·next h =>
  split
  ·next x hx =>
   refine⟨fun a=>absurd a (x2h _ _ _ hx),fun a=>?_⟩;rw[X.2 a.2.1]at hx;cases hx
  ·grind
theorem y0J(f c:Int):∀(l:List Rec) (i:Nat),0<=findA f c i l->∃k,∃G:k<l.length,findA f c i l=(i+k:Nat)/\fam l[k].kind=f/\speaks l[k] c=true
 | [],i,h=>by rw[findA]at h;exact f6J
 | r::l,i,h=>by
  rw[findA]at h ⊢;split
  ·next hr=>exact⟨0,M7M,M7M,hr.1,hr.2⟩
  ·next hr =>
   rw[if_neg hr]at h;obtain⟨k,G,Z,D,J⟩:=y0J f c l (i+1) h;exact⟨k+1,P8P,by rw[Z];congr 1;exact f6J,D,J⟩
theorem x4I(f c:Int):∀(l:List Rec) (i:Nat),(∃r∈l,fam r.kind=f/\speaks r c=true)->0<=findA f c i l
 | [],i,⟨r,hr,_⟩=>by cases hr
 | x::l,i,⟨r,hr,h1,h2⟩=>by
  rw[findA];split
  ·omega
  ·next hx =>
   rcases List.mem_cons.1 hr with rfl | hr
   ·exact absurd ⟨h1,h2⟩ hx
   ·exact x4I f c l (i+1) ⟨r,hr,h1,h2⟩
theorem x2p{l f c r}(h:hit l f c=some r):r∈l/\fam r.kind=f/\speaks r c=true:=by
 unfold hit at h;split at h
 ·cases h
 ·next hf =>
  cases h;unfold find at hf ⊢;split at hf
  ·omega
  ·next hg =>
   rw[if_neg hg];obtain⟨k,G,Z,D,J⟩:=y0J f c l 0 f6J;rw[Z,(f6J:((0+k:Nat):Int).toNat=k),getD_at G];exact⟨List.getElem_mem G,D,J⟩
theorem once{l}(h:(check6 l).2=0){f c a b}(E:a∈l)(Y:b∈l)(B:fam a.kind=f)(fb:fam b.kind=f)(K:speaks a c=true)(m:speaks b c=true):a=b:=by
 obtain⟨_,X,s⟩:=x0k.1 h;rw[List.pairwise_iff_getElem]at s
 have G:∀{x:Rec},speaks x c=true->x.kind≠15:=fun A=>by
  unfold speaks at A;exact(o0d A).1
 obtain⟨i,hi,rfl⟩:=List.getElem_of_mem E;obtain⟨j,R,rfl⟩:=List.getElem_of_mem Y;rcases Nat.lt_trichotomy i j with D | rfl | D
 ·have:=s i j hi R D;rw[Bool.eq_false_iff]at this;exact absurd ((x1L (X _ E) (X _ Y) (B.trans fb.symm) (G K) (G m)).2 ⟨c,K,m⟩) this
 ·rfl
 ·have:=s j i R hi D;rw[Bool.eq_false_iff]at this;exact absurd ((x1L (X _ Y) (X _ E) (fb.trans B.symm) (G m) (G K)).2 ⟨c,m,K⟩) this
theorem x1M{l}(h:(check6 l).2=0){f c}(C:f≠10/\f≠0) r:hit l f c=some r↔r∈l/\fam r.kind=f/\speaks r c=true:=by
 refine⟨x2p,fun⟨h1,h2,h3⟩=>?_⟩;have L:=x4I f c l 0 ⟨r,h1,h2,h3⟩
 have s:hit l f c=some (l.getD (find l f c).toNat none):=by
  unfold hit;rw[if_neg];unfold find;rw[if_neg f6J];omega
 obtain⟨a,A,K⟩:=x2p s;rw[s,once h a h1 A h2 K h3]
theorem y4h{l f c}(C:f≠10/\f≠0)(h:hit l f c=Option.none):∀r∈l,fam r.kind=f->speaks r c=false:=by
 intro r X D;refine Bool.eq_false_iff.2 fun J=>?_;have L:=x4I f c l 0 ⟨r,X,D,J⟩;unfold hit at h;rw[if_neg]at h
 ·cases h
 ·unfold find;rw[if_neg f6J];omega
end Go.Proofs.YtkfcabdmkmljjaaGreatDoor.Cn
namespace Go.Proofs.YtkfcabdmkmljjaaGreatDoor.Cn
open Go.Proofs.Tryz
def y1G(a b:Rec):Prop:=a.kind=7/\b.kind=7/\a.to.getD 0 0=b.to.getD 0 0/\a.to.getD 1 0=b.to.getD 1 0
theorem z3Q{l i r}(y:r.kind=7):pair l i r=true↔pair l 0 r=true/\∀k∈l.take i,¬y1G k r:=by
 unfold pair;rw[Bool.and_eq_true,Bool.and_eq_true];have U:(!((l.take 0).any fun k=>decide (k.kind=7/\k.to.getD 0 0=r.to.getD 0 0/\k.to.getD 1 0=r.to.getD 1 0)))=true:=M7K
 have hi:(!((l.take i).any fun k=>decide (k.kind=7/\k.to.getD 0 0=r.to.getD 0 0/\k.to.getD 1 0=r.to.getD 1 0)))=true↔∀k∈l.take i,¬y1G k r:=by
  rw[Bool.not_eq_true',Bool.eq_false_iff,Ne,List.any_eq_true];constructor
  ·exact fun h k G ⟨a,_,b,c⟩=>h ⟨k,G,d0t ⟨a,b,c⟩⟩
  ·rintro h ⟨k,G,hd⟩;obtain⟨a,b,c⟩:=o0d hd;exact h k G ⟨a,y,b,c⟩
 rw[hi];exact⟨fun⟨a,b⟩=>⟨⟨a,U⟩,b⟩,fun⟨⟨a,_⟩,b⟩=>⟨a,b⟩⟩
def recF(l:List Rec)(r:Rec)(b:Bool):Int :=
 if fam r.kind≠2/\fam r.kind≠3 then 0
 else if covers r 0 127 then 70
 else if covers r 4352 4370||covers r 4449 4469||covers r 4520 4546||covers r 44032 55203 then 71
 else if r.kind=7/\((jl (r.to.getD 0 0)&&jv (r.to.getD 1 0))||(syl (r.to.getD 0 0)&&decide ((r.to.getD 0 0-44032)%28=0)&&jt (r.to.getD 1 0)))=true then 71
 else if fam r.kind=2 then 0
 else if(full l r.lo).2≠0 then(full l r.lo).2
 else if fallsA l (full l r.lo).1 then 75
 else if b=true then 74
 else 0
theorem x9P l i r:record l i r=recF l r (decide (r.kind=7/\pair l i r=false)):=by
 unfold record recF;simp only[decide_eq_true_eq]
theorem recF_two{l r}(C:fam r.kind=3):(recF l r true=recF l r false/\recF l r false≠0)\/(recF l r true=74/\recF l r false=0):=by
 unfold recF;have Z:¬(fam r.kind≠2/\fam r.kind≠3):=fun h=>h.2 C;have D:¬fam r.kind=2:=f6J;simp only[if_neg Z,if_neg D,if_true];by_cases g:covers r 0 127=true
 ·simp[g]
 ·grind
theorem x4V{l i r}:record l i r=0↔record l 0 r=0/\∀k∈l.take i,¬y1G k r:=by
 rw[x9P,x9P];by_cases y:r.kind=7
 ·have A:=z3Q (l:=l) (i:=i) y;have C:fam r.kind=3:=(by rw[y];exact e8M);have e:∀i,decide (r.kind=7/\pair l i r=false)=!(pair l i r):=fun i=>(by cases pair l i r<;>simp[y]);rw[e,e];rcases recF_two (l:=l) C with⟨Z,D⟩ | ⟨Z,D⟩
  ·grind
  ·grind
 ·have e:∀i,decide (r.kind=7/\pair l i r=false)=false:=fun i=>(by simp[y]);rw[e,e];exact⟨fun a=>⟨a,fun k _ s=>y s.2.1⟩,fun a=>a.1⟩
theorem x5w{l:List Rec}:∀(m:List Rec) (i:Nat),x0U l i m=Option.none↔∀j,(R:j<m.length)->record l (i+j) m[j]=0
 | [],i=>⟨fun _ j R=>absurd R M7L,fun _=>rfl⟩
 | r::m,i=>by
  rw[x0U];split
  ·next h =>
   rw[x5w m];constructor
   ·intro D j R
    cases j with
    | zero=>exact h
    | succ j =>
     have:=D j s4R;rwa [(f6J:i+1+j=i+(j+1))]at this
   ·intro D j R;have:=D (j+1) s4R;rwa [(f6J:i+(j+1)=i+1+j)]at this
  ·next h=>exact⟨fun a=>(nomatch a),fun a=>absurd (a 0 M7L) h⟩
theorem x3I{l:List Rec}:∀(m:List Rec) (i:Nat) (x:Nat×Int),x0U l i m=some x->x.2≠0
 | [],_,_,h=>by rw[x0U]at h;exact m5j
 | y::m,i,x,h=>by
  rw[x0U]at h;split at h
  ·exact x3I m (i+1) x h
  ·next hx=>cases h;exact hx
theorem x1f{l}:(check l).2=0↔(check6 l).2=0/\(∀r∈l,record l 0 r=0)/\(l.Pairwise fun a b=>¬y1G a b)/\baseA l 78 45=true:=by
 have X:=x5w (l:=l) l 0
 have A:(∀j,(R:j<l.length)->record l (0+j) l[j]=0)↔(∀r∈l,record l 0 r=0)/\l.Pairwise fun a b=>¬y1G a b:=by
  rw[List.pairwise_iff_getElem];constructor
  ·intro h;refine⟨fun r X=>?_,fun i j hi R I=>?_⟩
   ·obtain⟨j,R,rfl⟩:=List.getElem_of_mem X;exact(x4V.1 (h j R)).1
   ·exact(x4V.1 (h j R)).2 _ (List.mem_take_iff_getElem.2 ⟨i,f6J,rfl⟩)
  ·rintro⟨Z,D⟩ j R;refine x4V.2 ⟨Z _ (List.getElem_mem R),fun k G=>?_⟩;obtain⟨i,hi,rfl⟩:=List.mem_take_iff_getElem.1 G;exact D i j f6J R f6J
 unfold check;split
 ·omega
 ·next h =>
  split
  ·next x hx' =>
   refine⟨fun a=>absurd a (x3I _ _ _ hx'),fun a=>?_⟩;rw[X.2 (A.2 ⟨a.2.1,a.2.2.1⟩)]at hx';cases hx'
  ·grind
theorem z2A{a b}(E:right a=0)(Y:right b=0)(h:clash a b=false):clash b a=false:=by rw[y5m Y E];exact h
end Go.Proofs.YtkfcabdmkmljjaaGreatDoor.Cn
namespace Go.Proofs.YtkfcabdmkmljjaaGreatDoor.Cn
open Go.Proofs.Tryz
def x1w(f:Int)(s:List Rec):Prop:=(∀r∈s,right r=0/\fam r.kind=f)/\s.Pairwise fun a b=>a.hi<b.lo
def ahead(s:List Rec)(c:Int):Nat:=s.countP fun r=>decide (r.hi<c)
def near(s:List Rec)(c:Int):List Rec:=(s.drop (ahead s c)).take 1
theorem x4v{r}(h:fam r.kind=2\/fam r.kind=3):step r=1/\r.kind≠15/\r.kind≠4:=by
 have F:r.kind≠4:=by
  intro e;rw[e]at h;revert h;decide
 have E:r.kind≠15:=by
  intro e;rw[e]at h;revert h;decide
 exact⟨by unfold step;rw[if_neg F],E,F⟩
theorem x5d{r}(h:right r=0)(C:fam r.kind=2\/fam r.kind=3) c:speaks r c=true↔r.lo<=c/\c<=r.hi:=by
 obtain⟨Z,D,_⟩:=x4v C;rw[x0J h D,x9o,Z];constructor
 ·rintro⟨a,b,_⟩;exact⟨a,b⟩
 ·omega
theorem y6l{f}(C:f=2\/f=3){s}(hr:∀r∈s,right r=0/\fam r.kind=f)(I:s.Pairwise fun a b=>clash a b=false)(L:s.Pairwise fun a b=>a.lo<=b.lo):x1w f s:=by
 refine⟨hr,?_⟩;have h:=List.pairwise_and_iff.2 ⟨I,L⟩;refine h.imp_of_mem fun{a b} ha hb ⟨h1,h2⟩=>?_;obtain⟨d,B⟩:=hr a ha;obtain⟨z,fb⟩:=hr b hb;have D:fam a.kind=2\/fam a.kind=3:=f6J;have E:fam b.kind=2\/fam b.kind=3:=f6J;obtain⟨_,F,_⟩:=x4v D;obtain⟨_,A,_⟩:=x4v E;obtain⟨_,m,_⟩:=x0q z A;refine Int.not_le.1 fun v=>?_;have:clash a b=true:=(x1L d z f6J F A).2 ⟨b.lo,(x5d d D _).2 ⟨h2,v⟩,(x5d z E _).2 ⟨Int.le_refl _,m⟩⟩;rw[h1]at this;cases this
theorem x9H{s c r}(h:r∈near s c):r∈s:=List.mem_of_mem_drop (List.mem_of_mem_take h)
theorem y9Y{f:Int}(C:f=2\/f=3):∀{s:List Rec} (_:x1w f s) {c:Int} {r:Rec} (_:r∈s) (_:r.lo<=c) (_:c<=r.hi),r∈near s c
 | [],_,_,_,h,_,_=>m5j
 | a::s,ho,c,r,h,h1,h2=>by
  obtain⟨hr,G⟩:=ho;rw[List.pairwise_cons]at G;by_cases E:a.hi<c
  ·have y:r≠a:=by rintro rfl;omega
   have o:r∈s:=by
    rcases List.mem_cons.1 h with e | e
    ·exact absurd e y
    ·exact e
   have B:=y9Y C (s:=s) ⟨fun x hx=>hr x (List.mem_cons_of_mem _ hx),G.2⟩ o h1 h2
   have e:ahead (a::s) c=ahead s c+1:=by
    unfold ahead;rw[List.countP_cons_of_pos f3L]
   unfold near;rw[e,List.drop_succ_cons];exact B
  ·have u:ahead (a::s) c=0:=by
    unfold ahead;rw[List.countP_eq_zero];intro x hx;rcases List.mem_cons.1 hx with rfl | A
    ·exact f3L
    ·have J:=G.1 x A;obtain⟨F,fx⟩:=hr x hx;obtain⟨_,D,_⟩:=x4v (r:=x) f6J;have:=x0q F D;simp;omega
   have e:r=a:=by
    rcases List.mem_cons.1 h with e | e
    ·exact e
    ·have:=G.1 r e;omega
   subst e;unfold near;rw[u];simp
theorem y6d{f s}(R:x1w f s) c:(check6 (near s c)).2=0:=by
 refine x0k.2 ⟨?_,fun r X=>(R.1 r (x9H X)).1,?_⟩
 ·unfold near;rw[List.length_take];omega
 ·have:(near s c).length<=1:=by unfold near;rw[List.length_take];omega
  match near s c,this with
  | [],_=>exact .nil
  | [_],_=>simp
  | _::_::_,h=>simp at h
theorem x9G{f}(C:f=2\/f=3){l s}(S:(check6 l).2=0)(R:x1w f s)(o:∀r,r∈s↔r∈l/\fam r.kind=f) c:hit (near s c) f c=hit l f c:=by
 have F:f≠10/\f≠0:=f6J;apply Option.ext;intro r;rw[x1M (y6d R c) F,x1M S F];constructor
 ·rintro⟨Z,D,J⟩;exact⟨((o r).1 (x9H Z)).1,D,J⟩
 ·rintro⟨Z,D,J⟩;have L:=(o r).2 ⟨Z,D⟩;have X:=R.1 r L;have:=(x5d X.1 f6J c).1 J;exact⟨y9Y C R L this.1 this.2,D,J⟩
theorem z3F{l s}(S:(check6 l).2=0)(R:x1w 2 s)(o:∀r,r∈s↔r∈l/\fam r.kind=2) c:cls (near s c) c=cls l c:=by
 unfold cls;rw[x9G (.inl rfl) S R o]
theorem x9I{l s}(S:(check6 l).2=0)(R:x1w 3 s)(o:∀r,r∈s↔r∈l/\fam r.kind=3) c:opn (near s c) c=opn l c:=by
 unfold opn;rw[x9G (.inr rfl) S R o]
theorem y9Z{l s}(S:(check6 l).2=0)(R:x1w 3 s)(o:∀r,r∈s↔r∈l/\fam r.kind=3) c:prim (near s c) c=prim l c:=by
 unfold prim;rw[x9I S R o,x9G (.inr rfl) S R o]
end Go.Proofs.YtkfcabdmkmljjaaGreatDoor.Cn
namespace Go.Proofs.YtkfcabdmkmljjaaGreatDoor
open Go.Proofs.Tryz
open Go.RowKit
theorem y5M x w:Calls prog 237 #[.int .i64 x] w fun e w'=>e=.returned (.bool false)/\w'=w:=by
 have A:(x != x)=false:=M7L;go_enter func237,ntmps237;exact t6u
theorem x2M x y w:Calls prog 183 #[.int .i64 x,.int .i64 y] w fun e w'=>e=.returned (.int .i64 (Lib.compareInt x y))/\w'=w:=by
 have K:=O y5M;have T:∀r,r=Lib.compareInt x y->(Ending.returned (.int .i64 r)=.returned (.int .i64 (Lib.compareInt x y))/\w=w):=fun r h=>(by subst h;exact g9T);have m:x<y->Lib.compareInt x y=-1:=fun h=>(by unfold Lib.compareInt;rw[if_pos h]);have X:y<x->Lib.compareInt x y=1:=fun h=>(by unfold Lib.compareInt;rw[if_neg f6J,if_pos f6J]);have Y:¬x<y->¬y<x->Lib.compareInt x y=0:=fun Z D=>(by unfold Lib.compareInt;rw[if_neg Z,if_neg f6J]);by_cases Z:x<y
 ·rw[m Z];exact M1m
 ·by_cases D:y<x
  ·rw[X D];exact M1m
  ·rw[Y Z D];exact M1m
theorem y2S r vt c w:Calls prog 273 #[recV r vt,.int .i64 c] w fun e w'=>e=.returned (.int .i64 (Lib.compareInt r.hi c))/\Bw w w':=by
 have K:=O (fun W=>x2M r.hi c W);unfold recV;have x:∀o,Bw w (w.alloc o):=fun o=>(b0r).alloc (l0r _) _;have I:=O x;go_enter func273,ntmps273;go_wp2_with fail;refine(V K _).mono ?_;rintro e Q ⟨rfl,rfl⟩;go_wp2;go_ret;exact⟨rfl,V I _⟩
def Bdry(s:List Rec)(c:Int)(lo hi:Nat):Prop:=(∀t,t<lo->(s.getD t Cn.none).hi<c)/\(∀t,hi<=t->t<s.length->¬(s.getD t Cn.none).hi<c)
def y2a(w:World)(s:List Rec)(c:Int)(e:Ending)(w':World):Prop:=∃(k:Nat) (b:Bool),e=.returned (.tuple #[.int .i64 k,.bool b])/\Below w.heap.size w w'/\k<=s.length/\Bdry s c k k
theorem y6I v s c w(N:Rcs w v s)(T:∀a b,a<=b->b<s.length->(s.getD b Cn.none).hi<c->(s.getD a Cn.none).hi<c) :
  Calls prog 272 #[v,.int .i64 c,.func (.func 273) #[] #[]] w (y2a w s c):=by
 have eg:∀o w,(callFunc 273 o).run prog w=.ok (.enter 273 o) w:=enters_of func273 f4y rfl;have KN:=O (fun r g W=>y2S r g c W);have l:=O T;have am:=N.1;rcases Nat.eq_zero_or_pos s.length with n0 | n0
 ·obtain⟨ao,M,rfl,_,_⟩:=N.shape;have ae:y2a w s c (.returned (.tuple #[.int .i64 0,.bool false])) w:=⟨0,false,rfl,b0r,f6J,fun t K=>f6J,fun t _ K=>f6J⟩;rw[n0];go_enter func272,ntmps272;go_wp2;refine wp_loop_rounds 1 ?_;rw[rounds_succ];go_wp2;go_ret2;exact ae
 ·obtain⟨b,P,M,rfl,L,x,X⟩:=N.place n0;have HC:Hid (∀i,i<s.length->∀W,Bw w W->RecAt W b (P+i*8) (s.getD i Cn.none)):=fun i hi W Y=>(X i hi).below Y;go_enter func272,ntmps272;go_wp2;go_loopw[9,10,11] (fun i j _ wr=>∃lo hi:Nat,i=.int .i64 lo/\j=.int .i64 hi/\lo<=hi/\hi<=s.length/\Bw w wr/\Hid (Bdry s c lo hi)) (fun i j _ _=>(intOf j).toNat-(intOf i).toNat)
  case atStart=>exact⟨0,s.length,rfl,rfl,f6J,f6J,b0r,⟨fun t K=>f6J,fun t Z h2=>f6J⟩⟩
  case round =>
   obtain⟨lo,hi,rfl,rfl,aq,aj,C,I⟩:=hrel;by_cases E:lo<hi
   ·have A:(lo+hi) / 2<s.length:=f6J;have n:=V HC ((lo+hi) / 2) A wr C;obtain⟨p,x1,S,q,⟨g,x4,f⟩,m,U,x7⟩:=n;obtain⟨d,J,rfl,_,_⟩:=f.shape;have H:=O (V KN (s.getD ((lo+hi) / 2) Cn.none) (.slice d (s.getD ((lo+hi) / 2) Cn.none).to.length J) wr);unfold recV at H
    have G:Hid ((s.getD ((lo+hi) / 2) Cn.none).hi<c->Bdry s c ((lo+hi) / 2+1) hi):=fun h =>
     ⟨fun t K=>V l t ((lo+hi) / 2) f6J A h,(V I).2⟩
    have Q:Hid (¬(s.getD ((lo+hi) / 2) Cn.none).hi<c->Bdry s c lo ((lo+hi) / 2)):=fun h =>
     ⟨(V I).1,fun t K k h2=>h (V l ((lo+hi) / 2) t K k h2)⟩
    have y:∀z,Lib.compareInt z c<0↔z<c:=fun z=>(by unfold Lib.compareInt;exact t3k);have ab:=y (s.getD ((lo+hi) / 2) Cn.none).hi;generalize s.getD ((lo+hi) / 2) Cn.none=r at *;by_cases u:r.hi<c
    ·have B:=ab.2 u;have HI:=O (V G u);generalize Lib.compareInt r.hi c=z at *;go_wp2_with fail;refine c0m H fun w1 F=>?_;have R:=bthen C F;go_wp2
     go_roundw
     case rel=>exact⟨(lo+hi) / 2+1,hi,g2A,rfl,f6J,f6J,R,HI⟩
     case measure=>exact g7W
    ·have B:¬Lib.compareInt r.hi c<0:=fun h=>u (ab.1 h);have HI:=O (V Q u);generalize Lib.compareInt r.hi c=z at *;go_wp2_with fail;refine c0m H fun w1 F=>?_;have R:=bthen C F;go_wp2
     go_roundw
     case rel=>exact⟨lo,(lo+hi) / 2,rfl,g2A,f6J,f6J,R,HI⟩
     case measure=>exact g7W
   ·obtain rfl:hi=lo:=f6J;have D:Hid (∀(b:Bool) W,Bw w W->y2a w s c (.returned (.tuple #[.int .i64 (hi:Int),.bool b])) W):=fun b W h=>⟨hi,b,rfl,h,aj,V I⟩;by_cases hn:hi<s.length
    ·have n:=V HC hi hn wr C;obtain⟨p,x1,S,q,⟨g,x4,f⟩,m,U,x7⟩:=n;obtain⟨d,J,rfl,_,_⟩:=f.shape;have H:=O (V KN (s.getD hi Cn.none) (.slice d (s.getD hi Cn.none).to.length J) wr);unfold recV at H;generalize s.getD hi Cn.none=r at p x1 S q x4 m U x7 H;generalize Lib.compareInt r.hi c=z at *;go_wp2_with fail;refine c0m H fun w1 F=>?_;have R:=bthen C F;go_wp2;go_ret2;exact V D _ _ R
    ·clear HC KN l I;go_wp2;go_ret2;exact V D _ _ C
theorem Rcs.sub{w ao len cap k s}(h:Rcs w (.slice ao len cap) s)(S:s.length=len)(G:k<len):∃b off,ao=some ⟨b,off,none⟩/\Rcs w (.slice (some ⟨b,off+k*8,none⟩) 1 (cap-k)) ((s.drop k).take 1):=by
 obtain⟨Z,D,J⟩:=h;rcases J with⟨rfl,X,A,N,o⟩ | ⟨b,off,A,N,B,o,I⟩
 ·simp at S;omega
 ·simp only[Value.slice.injEq]at N;obtain⟨rfl,e,rfl⟩:=N;have L:((s.drop k).take 1).length=1:=P8P;refine⟨b,off,rfl,f6J,fun r C=>D r (List.mem_of_mem_drop (List.mem_of_mem_take C)),.inr ⟨b,off+k*8,cap-k,by rw[L],f6J,f6J,fun i hi=>?_⟩⟩;obtain rfl:i=0:=f6J;have:=I k f6J;rw[show((s.drop k).take 1).getD 0 Cn.none=s.getD k Cn.none by simp[List.getD],Nat.zero_mul,Nat.add_zero];exact this
theorem y4Z{s c}:∀{k:Nat},k<=s.length->Bdry s c k k->Cn.ahead s c=k:=by
 induction s with
 | nil=>intro k G _;simp at G;subst G;rfl
 | cons a s ih =>
  intro k G ⟨Z,D⟩
  cases k with
  | zero =>
   unfold Cn.ahead;rw[List.countP_eq_zero];intro x A;obtain⟨t,K,rfl⟩:=List.getElem_of_mem A;have:=D t (Nat.zero_le _) K;rw[show(a::s).getD t Cn.none=(a::s)[t]from by rw[List.getD_eq_getElem?_getD,List.getElem?_eq_getElem K];rfl]at this;exact W2K
  | succ k =>
   have U:a.hi<c:=(by simpa using Z 0 f6J);have:Cn.ahead s c=k:=ih E9s ⟨fun t K=>by simpa using Z (t+1) f6J,fun t K B=>by simpa using D (t+1) f6J P8P⟩;unfold Cn.ahead at this ⊢;rw[List.countP_cons_of_pos (by simpa using U),this]
theorem y1q{f}(C:f=2\/f=3){s}(R:Cn.x1w f s) c:∀a b,a<=b->b<s.length->(s.getD b Cn.none).hi<c->(s.getD a Cn.none).hi<c:=by
 intro a b B Y h;rcases Nat.lt_or_eq_of_le B with E | rfl
 ·have D:=List.pairwise_iff_getElem.1 R.2 a b f6J Y E;have eb:s.getD b Cn.none=s[b]:=(by grind);have ea:s.getD a Cn.none=s[a]:=(by grind);rw[eb]at h;rw[ea];obtain⟨z,fb⟩:=R.1 s[b] (List.getElem_mem Y);obtain⟨_,A,_⟩:=Cn.x4v (r:=s[b]) f6J;have:=Cn.x0q z A;omega
 ·exact h
def z5z(w0 w:World)(s:List Rec)(e:Ending)(w':World):Prop:=∃v,e=.returned v/\Rcs w0 v s/\Below w.heap.size w w'
theorem x9F v s c f(C:f=2\/f=3) w0 w(N:Rcs w0 v s)(y:Bw w0 w)(W:Cn.x1w f s)(I:Rune c):Calls prog 241 #[v,.int .i32 c] w (z5z w0 w (Cn.near s c)):=by
 have K:=O (y6I v s c w (N.below y) (y1q C W c));have B:=N.1;obtain⟨J,M,rfl,L,x⟩:=N.shape;obtain⟨l,g⟩:=I;have R:=O N;go_enter func241,ntmps241;go_wp2_with fail;refine(V K).mono ?_;rintro e Q ⟨k,b,rfl,F,G,Z⟩;have D:=y4Z G Z;by_cases E:k<s.length
 ·obtain⟨H,P,rfl,U⟩:=(V R).sub rfl E;have T:z5z w0 w (Cn.near s c) (.returned (.slice (some ⟨H,P+k*8,none⟩) 1 (M-k))) Q:=⟨_,rfl,by unfold Cn.near;rw[D];exact U,F⟩;have S:min ((k:Int)+1) (s.length:Int)=(k:Int)+1:=f6J;have n:¬M-k=0:=f6J;exact U7H
 ·obtain rfl:k=s.length:=f6J;have T:∀X m,m<=9223372036854775807->z5z w0 w (Cn.near s c) (.returned (.slice X 0 m)) Q:=fun X m o=>⟨_,rfl,by unfold Cn.near;rw[D,List.drop_length];exact⟨M7L,fun _ h=>m5l,.inl ⟨rfl,X,_,rfl,o⟩⟩,F⟩;have S:min ((s.length:Int)+1) (s.length:Int)=(s.length:Int):=f6J;go_wp2
  all_goals
   go_ret;exact T _ _ f6J
structure Idx(l:List Rec)(w0:World)(cv ov:Value)(cs os:List Rec):Prop where
 rc:Rcs w0 cv cs
 ro:Rcs w0 ov os
 oc:Cn.x1w 2 cs
 oo:Cn.x1w 3 os
 mc:∀r,r∈cs↔r∈l/\Cn.fam r.kind=2
 mo:∀r,r∈os↔r∈l/\Cn.fam r.kind=3
 ok:(Cn.check6 l).2=0
theorem Idx.below{l w0 w1 cv ov cs os}(h:Idx l w0 cv ov cs os)(Y:Bw w0 w1):Idx l w1 cv ov cs os:={ h with rc:=h.rc.below Y,ro:=h.ro.below Y }
def xV(cv ov mv:Value):Value:=.agg #[cv,ov,mv]
theorem x5j l cs os cv ov mr c w(H:Glob w)(h:Idx l w cv ov cs os)(I:Rune c):Calls prog 190 #[xV cv ov (.map (some mr)),.int .i32 c] w (IntB w (Cn.cls l c)):=by
 obtain⟨g,Z,rfl,_,_⟩:=h.rc.shape;obtain⟨P,B,rfl,_,_⟩:=h.ro.shape;have Y:Bw w (w.alloc (.cells #[.slice g cs.length Z,.slice P os.length B,.map (some mr)] 168)):=(b0r).alloc (l0r _) _;have K:=O (x9F _ cs c 2 (.inl rfl) w _ h.rc Y h.oc I);have j:=O (fun W v' (Y:Bw w W) (N:Rcs w v' (Cn.near cs c))=>z9k v' (Cn.near cs c) c W (H.on Y) (N.below Y) I);rw[Cn.z3F h.ok h.oc h.mc]at j;generalize Cn.cls l c=z at *;unfold xV;go_enter func190,ntmps190;go_wp2_with fail;refine(V K).mono ?_;rintro e Q ⟨b,rfl,d,F⟩;have m:=O (V j Q b (bthen Y F) d);have t:=bthen Y F;obtain⟨C,A,rfl,_,_⟩:=d.shape;go_wp2_with fail;refine c0m m fun u L=>?_;have T:IntB w z (.returned (.int .i64 z)) u:=⟨rfl,bthen t L⟩;go_wp2;go_ret;exact T
theorem x7G l cs os cv ov mr c w0 w(H:Glob w0)(h:Idx l w0 cv ov cs os)(y:Bw w0 w)(I:Rune c):Calls prog 189 #[xV cv ov (.map (some mr)),.int .i32 c] w (OpB w0 w (Cn.opn l c)):=by
 obtain⟨g,Z,rfl,_,_⟩:=h.rc.shape;obtain⟨P,B,rfl,_,_⟩:=h.ro.shape;have Y:Bw w (w.alloc (.cells #[.slice g cs.length Z,.slice P os.length B,.map (some mr)] 168)):=(b0r).alloc (l0r _) _;have K:=O (x9F _ os c 3 (.inr rfl) w0 _ h.ro (y.trans (Y.mono y.size)) h.oo I);have j:=O (fun W v' (Y:Bw w W) (N:Rcs w0 v' (Cn.near os c))=>x8z v' (Cn.near os c) c w0 W ((H.on y).on Y) N (y.trans (Y.mono y.size)) I);rw[Cn.x9I h.ok h.oo h.mo]at j;generalize Cn.opn l c=z at *;unfold xV;go_enter func189,ntmps189;go_wp2_with fail;refine(V K).mono ?_;rintro e Q ⟨b,rfl,d,F⟩;have m:=O (V j Q b (bthen Y F) d);have t:=bthen Y F;obtain⟨C,A,rfl,_,_⟩:=d.shape;go_wp2_with fail;refine(V m).mono ?_;rintro e u ⟨a,rfl,G,L⟩;have T:OpB w0 w z (.returned a) u:=⟨a,rfl,G.imp id (fun h=>h.lower t.size),bthen t L⟩;exact U7G
theorem z1O l cs os cv ov mr c w(H:Glob w)(h:Idx l w cv ov cs os)(I:Rune c):Calls prog 191 #[xV cv ov (.map (some mr)),.int .i32 c] w (x0g w (Cn.prim l c).isSome):=by
 obtain⟨g,Z,rfl,_,_⟩:=h.rc.shape;obtain⟨P,B,rfl,_,_⟩:=h.ro.shape;have Y:Bw w (w.alloc (.cells #[.slice g cs.length Z,.slice P os.length B,.map (some mr)] 168)):=(b0r).alloc (l0r _) _;have K:=O (x9F _ os c 3 (.inr rfl) w _ h.ro Y h.oo I);have j:=O (fun W v' (Y:Bw w W) (N:Rcs w v' (Cn.near os c))=>primC v' (Cn.near os c) c W (H.on Y) (N.below Y) I);rw[Cn.y9Z h.ok h.oo h.mo]at j;generalize Cn.prim l c=z at *;unfold xV;go_enter func191,ntmps191;go_wp2_with fail;refine(V K).mono ?_;rintro e Q ⟨b,rfl,d,F⟩;have m:=O (V j Q b (bthen Y F) d);have t:=bthen Y F;obtain⟨C,A,rfl,_,_⟩:=d.shape;go_wp2_with fail;refine c0m m fun u L=>?_;have T:x0g w z.isSome (.returned (.bool z.isSome)) u:=⟨rfl,bthen t L⟩;go_wp2;go_ret;exact T
theorem q1t l cs os cv ov mr w(H:Glob w)(h:Idx l w cv ov cs os):y1Y 189 #[xV cv ov (.map (some mr))] #[] l w :=
 fun c W U I=>x7G l cs os cv ov mr c w W H h U I
theorem idx_len{l cs os cv ov w}(h:Idx l w cv ov cs os) c:(Cn.opn l c).length<=1000000000:=by
 rw[<- Cn.x9I h.ok h.oo h.mo];unfold Cn.opn;split
 ·exact f1Z
 ·cases hh:Cn.hit (Cn.near os c) 3 c with
  | none=>simp
  | some r =>
   obtain⟨Z,_,_⟩:=Cn.x2p hh;exact(h.ro.2.1 r (Cn.x9H Z)).len
theorem z1N l cs os cv ov mr c w(H:Glob w)(h:Idx l w cv ov cs os)(I:Rune c):Calls prog 188 #[.func (.func 189) #[xV cv ov (.map (some mr))] #[],.int .i32 c] w (x7H w (Cn.full l c)) :=
 fullK 189 _ _ l w (q1t l cs os cv ov mr w H h) (enters_of func189 f4x rfl) (idx_len h) c I
theorem hmeets_any b r x y w(Z:w.cell? ⟨b,1,none⟩=some (.int .i64 r.lo))(D:w.cell? ⟨b,2,none⟩=some (.int .i64 r.hi)):Calls prog 184 #[.int .i64 x,.int .i64 y,.pointer (some ⟨b,0,none⟩)] w fun e w'=>e=.returned (.bool (Cn.covers r x y))/\w'=w:=by
 unfold Cn.covers;by_cases C:r.lo<=y
 ·by_cases A:x<=r.hi
  ·rw[d0t ⟨C,A⟩];exact t0t
  ·rw[d0f (fun h=>A h.2)];have E:decide (x<=r.hi)=false:=d0f A;exact t0t
 ·rw[d0f (fun h=>C h.1)];exact t0t
def touches(r:Rec):Bool:=Cn.covers r 4352 4370||Cn.covers r 4449 4469||Cn.covers r 4520 4546||Cn.covers r 44032 55203
theorem x3O r ao len cap w:Calls prog 138 #[recV r (.slice ao len cap)] w (x0g w (touches r)):=by
 have Y:Bw w (w.alloc (.cells #[.int .i64 r.kind,.int .i64 r.lo,.int .i64 r.hi,.int .i64 r.n,.slice ao len cap,.string r.name,.string r.other,.float .f64 r.wt] 60)):=(b0r).alloc (l0r _) _;have K:=O (fun x y=>hmeets_any w.heap.size r x y (w.alloc (.cells #[.int .i64 r.kind,.int .i64 r.lo,.int .i64 r.hi,.int .i64 r.n,.slice ao len cap,.string r.name,.string r.other,.float .f64 r.wt] 60)) M7L M7L);have D:∀o w,(callFunc 184 o).run prog w=.ok (.enter 184 o) w:=enters_of func184 f4x rfl;have z:∀(fn:Fn) (first cap:Array Value) (w:World),(Instr.makeFunc fn first cap).run prog w=.ok (.func fn first cap) w:=fun _ _ _ _=>rfl;have C:=O Y;have l:=O (V K 4352 4370);have j:=O (V K 4449 4469);have k:=O (V K 4520 4546);have A:=O (V K 44032 55203);have v:touches r=(Cn.covers r 4352 4370||Cn.covers r 4449 4469||Cn.covers r 4520 4546||Cn.covers r 44032 55203):=rfl;rw[v];generalize Cn.covers r 4352 4370=c1,Cn.covers r 4449 4469=c2,Cn.covers r 4520 4546=c3,Cn.covers r 44032 55203=c4 at *;unfold recV;cases c1
 ·cases c2
  ·cases c3
   ·rw[(M7L:(false||false||false||c4)=c4)];go_enter func138,ntmps138;go_wp2_with fail;refine(V l).mono ?_;rintro e Q ⟨rfl,rfl⟩;go_wp2_with fail;refine(V j).mono ?_;rintro e Q ⟨rfl,rfl⟩;go_wp2_with fail;refine(V k).mono ?_;rintro e Q ⟨rfl,rfl⟩;go_wp2_with fail;refine(V A).mono ?_;exact r5J
   ·rw[(M7L:(false||false||true||c4)=true)];go_enter func138,ntmps138;go_wp2_with fail;refine(V l).mono ?_;rintro e Q ⟨rfl,rfl⟩;go_wp2_with fail;refine(V j).mono ?_;rintro e Q ⟨rfl,rfl⟩;go_wp2_with fail;refine(V k).mono ?_;exact r5J
  ·rw[(M7L:(false||true||c3||c4)=true)];go_enter func138,ntmps138;go_wp2_with fail;refine(V l).mono ?_;rintro e Q ⟨rfl,rfl⟩;go_wp2_with fail;refine(V j).mono ?_;exact r5J
 ·rw[(M7L:(true||c2||c3||c4)=true)];go_enter func138,ntmps138;go_wp2_with fail;refine(V l).mono ?_;exact r5J
def makes(a b:Int):Bool:=(Cn.jl a&&Cn.jv b)||(Cn.syl a&&decide ((a-44032)%28=0)&&Cn.jt b)
theorem y9M a b w:Calls prog 139 #[.int .i32 a,.int .i32 b] w fun e w'=>e=.returned (.bool (makes a b))/\w'=w:=by
 have G:=O (x6S a w);by_cases L:Cn.syl a=true
 ·have i:44032<=a/\a<=55203:=(by unfold Cn.syl at L;exact U9j);rw[L]at G;have l:=O (y4J a w i);have j:=O (x3o b 4520 4546 w)
  have e:makes a b=(decide ((a-44032)%28=0)&&decide (4520<=b/\b<=4546)):=by
   unfold makes;rw[L,show Cn.jl a=false by unfold Cn.jl;exact d0f f6J];simp[Cn.jt]
  rw[e];generalize decide (4520<=b/\b<=4546)=z at *;by_cases U:(a-44032)%28=0
  ·rw[d0t U,Bool.true_and];rw[U]at l;exact V3d
  ·rw[d0f U,Bool.false_and];generalize(a-44032)%28=t at *;have K:(t==0)=false:=b0f U;exact p0c
 ·have i:Cn.syl a=false:=U9j;rw[i]at G;have l:=O (x3o a 4352 4370 w);have j:=O (x3o b 4449 4469 w)
  have e:makes a b=(decide (4352<=a/\a<=4370)&&decide (4449<=b/\b<=4469)):=by
   unfold makes;rw[i];simp[Cn.jl,Cn.jv]
  rw[e];generalize decide (4352<=a/\a<=4370)=y,decide (4449<=b/\b<=4469)=z at *;cases y
  ·rw[Bool.false_and];exact p0c
  ·rw[Bool.true_and];exact V3d
namespace Cn
theorem y3h{r}(h:right r=0)(q:r.kind=6):1<=r.n/\r.n<=254:=by
 have C:=x0z h;unfold right at h;rw[if_neg C,if_neg f6J]at h;have I:=x1x h;rw[Bool.and_eq_true,if_neg f6J,if_neg f6J,if_neg f6J,if_neg f6J,if_neg f6J,if_pos q]at I;have D:=I.2;simp only[Bool.and_eq_true]at D;exact o0d D.2
theorem z6g{l}(h:(check6 l).2=0) c:0<=cls l c:=by
 unfold cls
 cases hh:hit l 2 c with
 | none=>simp
 | some r =>
  obtain⟨Z,D,_⟩:=x2p hh;have X:=(x1F h).2 r Z
  have G:r.kind=6:=by
   revert D;exact r2C
  have:=y3h X G;simp only;omega
def x2a(l:List Rec):Int->List Int->Bool
 | _,[]=>false
 | a,b::r=>decide (cls l b≠0/\cls l b<a)||x2a l (cls l b) r
theorem y8A(l:List Rec):∀(a:Int) (r:List Int),fallsA l (a::r)=x2a l (cls l a) r
 | _,[]=>rfl
 | a,b::r=>by rw[fallsA,x2a,y8A l b r]
theorem z6w{l:List Rec}(h:(check6 l).2=0):∀x:List Int,fallsA l x=x2a l 0 x
 | []=>rfl
 | a::r=>by
  rw[y8A,x2a,d0f (fun q=>by have:=z6g h a;exact f6J),Bool.false_or]
theorem y2w{l a}{x:List Int}{k}(G:k<x.length):x2a l a (x.drop k)=(decide (cls l (x.getD k 0)≠0/\cls l (x.getD k 0)<a)||x2a l (cls l (x.getD k 0)) (x.drop (k+1))):=by
 rw[List.drop_eq_getElem_cons G,x2a];exact w7Y
def wfull(l:List Rec)(c:Int):Int:=if(full l c).2≠0 then(full l c).2 else if fallsA l (full l c).1 then 75 else 0
end Cn
theorem y1U l cs os cv ov mr c w(hg:Glob w)(h:Idx l w cv ov cs os)(hc:Rune c):Calls prog 140 #[xV cv ov (.map (some mr)),.int .i32 c] w (IntB w (Cn.wfull l c)):=by
 obtain⟨g,Z,rfl,_,_⟩:=h.rc.shape;obtain⟨P,B,rfl,_,_⟩:=h.ro.shape;have Y:Bw w (w.alloc (.cells #[.slice g cs.length Z,.slice P os.length B,.map (some mr)] 168)):=(b0r).alloc (l0r _) _;have K:=O (z1N l cs os _ _ mr c _ (hg.on Y) (h.below Y) hc);have KC:=O (fun W x (U:Bw w W) (hx:Rune x)=>x5j l cs os _ _ mr x W (hg.on U) (h.below U) hx)
 have HX:Hid (∀W,Below (w.heap.size+1) (w.alloc (.cells #[.slice g cs.length Z,.slice P os.length B,.map (some mr)] 168)) W->W.cell? ⟨w.heap.size,0,none⟩=some (.slice g cs.length Z)/\W.cell? ⟨w.heap.size,1,none⟩=some (.slice P os.length B)/\W.cell? ⟨w.heap.size,2,none⟩=some (.map (some mr))):=fun W U=>by
  refine⟨?_,?_,?_⟩
  all_goals
   rw[U.cell (by show w.heap.size<_;exact f6J)];simp
 have aH:∀(fn:Fn) (first M:Array Value) (w:World),(Instr.makeFunc fn first M).run prog w=.ok (.func fn first M) w:=fun _ _ _ _=>rfl;have aF:=Cn.z6w h.ok (Cn.full l c).1;have I:=Cn.x4g l c;have S:Hid ((Cn.full l c).2≠0->Cn.wfull l c=(Cn.full l c).2):=fun q=>if_pos q;have ay:Hid ((Cn.full l c).2=0->Cn.wfull l c=if Cn.x2a l 0 (Cn.full l c).1 then 75 else 0):=fun q=>(by unfold Cn.wfull;rw[if_neg f6J,aF]);generalize Cn.full l c=f,Cn.wfull l c=R at *;obtain⟨D,er⟩:=f;simp only at S ay I;unfold xV at *;have aC:(w.alloc (.cells #[.slice g cs.length Z,.slice P os.length B,.map (some mr)] 168)).heap.size=w.heap.size+1:=M7O;go_enter func140,ntmps140;go_wp2_with fail;refine(V K).mono ?_;rintro e Q ⟨v1,rfl,o,F⟩;simp only at o;rw[aC]at F o;have p:Bw w Q:=Y.trans (F.mono f6J);by_cases s:er=0
 ·subst s;have hR:=V ay rfl;rcases Nat.eq_zero_or_pos D.length with n0 | n0
  ·obtain rfl:D=[]:=List.eq_nil_of_length_eq_zero n0
   have T:IntB w R (.returned (.int .i64 0)) Q:=by
    rw[hR];exact⟨rfl,p⟩
   obtain⟨ao,M,rfl,_,_⟩:=o.sk.shape;go_wp2;refine wp_loop_rounds 1 ?_;rw[rounds_succ];exact U7I
  ·have aB:=o.sk;obtain⟨xb,aD,aG,rfl,aI,aJ,r⟩:=aB.place n0
   have H:Hid (∀W,Below (w.heap.size+1) (w.alloc (.cells #[.slice g cs.length Z,.slice P os.length B,.map (some mr)] 168)) W->Bw Q W->∀i,i<D.length->W.cell? ⟨xb,aD+i,none⟩=some (.int .i32 (D.getD i 0))):=fun W _ U i hi=>by
    rw[U.cell (x0a (r i hi))];exact r i hi
   have aA:=O (fun k hk=>x0V aB (i:=k) hk);have y:=O (fun a k hk=>Cn.y2w (l:=l) (a:=a) (x:=D) (k:=k) hk);have aq:=O hR;have aj:=O F;have am:=O p;go_wp2;go_loopw[7,9,10,23] (fun a _ _ i wr=>∃(k:Nat) (z:Int),i=.int .i64 k/\a=.int .i64 z/\k<=D.length/\Hid (Cn.x2a l 0 D=Cn.x2a l z (D.drop k))/\Hid (Bw Q wr)) (fun _ _ _ i _=>D.length-(intOf i).toNat)
   case atStart=>exact⟨0,0,rfl,rfl,f6J,V0q,b0r⟩
   case round =>
    obtain⟨k,z,rfl,rfl,hk,G,N⟩:=hrel;have aw:=V N;have C:Below (w.heap.size+1) (w.alloc (.cells #[.slice g cs.length Z,.slice P os.length B,.map (some mr)] 168)) wr:=(V aj).trans (aw.mono (by have:=(V aj).size;simp at this;exact f6J));have ae:Bw w wr:=bthen (V am) aw;by_cases E:k<D.length
    ·have a0:=V H wr C aw k E;obtain⟨y0,y1,y2⟩:=V HX wr C;have m:=O (V KC wr (D.getD k 0) ae (V aA k E));have b:=V y z k E;rw[<- V G]at b;have ar:=O b;generalize Cn.cls l (D.getD k 0)=n at *;generalize D.getD k 0=x at *;go_wp2_with fail;refine c0m m fun u t=>?_;have v:Bw Q u:=bthen (V N) t;have ab:Bw w u:=bthen (V am) v;by_cases L:n≠0/\n<z
     ·have T:IntB w R (.returned (.int .i64 75)) u:=by
       have e1:=V aq;rw[V ar,d0t L,Bool.true_or]at e1;rw[e1];exact⟨rfl,ab⟩
      obtain⟨j,J⟩:=L;have d:(n != 0)=true:=(by simp[j]);exact U7I
     ·have A:Hid (Cn.x2a l 0 D=Cn.x2a l n (D.drop (k+1))):=by
       show _=_;rw[V ar,d0f L,Bool.false_or]
      have X:=O v;by_cases J:n<z
      ·have j:n=0:=by
        rcases Int.decEq n 0 with h | h
        ·exact absurd ⟨h,J⟩ L
        ·exact h
       subst j;go_wp2
       go_roundw
       case rel=>exact⟨k+1,0,g2A,rfl,f6J,A,X⟩
       case measure=>exact g7T
      ·clear H aA y aq aj am KC HX ar N v ab L;go_wp2
       go_roundw
       case rel=>exact⟨k+1,n,g2A,rfl,f6J,A,X⟩
       case measure=>exact g7T
    ·obtain rfl:k=D.length:=by omega
     have T:IntB w R (.returned (.int .i64 0)) wr:=by
      have e1:=V aq;rw[V G,List.drop_length]at e1;rw[e1];exact⟨rfl,ae⟩
     exact U7I
 ·obtain rfl:=V S s;have T:IntB w R (.returned (.int .i64 R)) Q:=⟨rfl,p⟩;have d:(R != 0)=true:=(by simp[s]);obtain⟨ao,M,rfl,_,_⟩:=o.sk.shape;exact U7I
