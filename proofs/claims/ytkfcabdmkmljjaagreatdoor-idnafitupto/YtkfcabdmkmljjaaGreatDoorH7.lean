/- Lemmas. -/
import Derived.Test.YtkfcabdmkmljjaaGreatDoorH5
import Derived.Defers
import Derived.Recover
import Derived.Shelf.SlSortCmp.WholeK
set_option maxHeartbeats 4000000
set_option maxRecDepth 8000
namespace Go.Proofs.YtkfcabdmkmljjaaGreatDoor
open Go.Proofs.Tryz
open Go.RowKit
section
variable{p:Prop}
theorem R8h(h:p:=by
 unfold fam at h;split at h
 ·omega
 ·omega):p:=h
theorem r2C(h:p:=by
 unfold fam;split
 ·intro e;omega
 ·omega):p:=h
theorem r2m(h:p:=by simp[Act.eval,Array.replicate]):p:=h
theorem U4J(h:p:=by go_enter func139,ntmps139;go_wp2_with fail;refine c0m l fun Q T=>?_;subst Q;go_wp2_with fail;refine c0m i fun Q T=>?_;subst Q;go_wp2_with fail;refine c0m j fun Q T=>?_;subst Q;go_wp2;go_ret;exact⟨rfl,rfl⟩):p:=h
theorem v6g(h:p:=by push_cast;rw[Int.add_mul];exact f6J):p:=h
theorem s8h(h:p:=by rw[h];exact e8M):p:=h
theorem t0t(h:p:=by go_enter func184,ntmps184;exact t6u):p:=h
theorem V9e(h:p:=by
 constructor
 ·intro h;cases h
 ·rintro⟨k,_,D,_⟩;have:=Int.mul_nonneg (f6J:(0:Int)<=k) L;omega):p:=h
theorem w8p(h:p:=by show 0<1;exact f6J):p:=h
theorem M1m(h:p:=by go_enter func183,ntmps183;go_wp2_with(go_at_call 237;refine(V K _ _).mono ?_;rintro e Q ⟨rfl,rfl⟩);go_ret;exact g9T):p:=h
theorem I1N(h:p:=by
 rcases Int.lt_or_le 0 j with t | t
 ·have:s*1<=s*j:=Int.mul_le_mul_of_nonneg_left f6J f6J;omega
 ·have:=Int.mul_nonpos_of_nonneg_of_nonpos (f6J:0<=s) t;omega):p:=h
theorem e6s(h:p:=by go_enter func139,ntmps139;go_wp2_with fail;refine c0m l fun Q T=>?_;subst Q;go_wp2_with fail;refine c0m i fun Q T=>?_;subst Q;go_wp2;go_ret;exact⟨rfl,rfl⟩):p:=h
theorem v1g(h:p:=by rintro e Q ⟨rfl,rfl⟩;go_wp2;go_ret;exact⟨rfl,V B⟩):p:=h
theorem M4u(h:p:=by simp[hy]):p:=h
theorem I1O(h:p:=by simp[List.getD]):p:=h
theorem R2b(h:p:=by simpa using X):p:=h
theorem n9f(h:p:=by simp[q]):p:=h
theorem p1J(h:p:=by simp[z]):p:=h
theorem w8c(h:p:=by simp[List.getD,G]):p:=h
end
theorem q0U w:(Instr.typeAssert .nilIface 20 29 true).run prog w=.ok (.tuple #[.int .i64 0,.bool false]) w:=f4x
theorem ta_ok n w:(Instr.typeAssert (.iface 29 (.int .i64 n)) 20 29 true).run prog w=.ok (.tuple #[.int .i64 n,.bool true]) w:=f4x
theorem y5l p q w:CallsD prog 238 #[.pointer (some p),.pointer (some q)] .returning w fun e X w'=>e=.returned (.tuple #[])/\X=.returning/\w'=w:=by
  refine callsD_of_wpS func238 rfl fun c₀ M W=>?_;apply wpS_seq;apply wpS_region;simp[wpOpsS,go_sem,recoverD,W,ntmps238,Exit.thenS,q0U];apply wpS_seq;apply wpS_region;simp[wpOpsS,go_sem,Exit.thenS];refine wpS_cond (t:=false) r2m ?_;simp only[Bool.false_eq_true,if_false];refine wpS_of_wp (wp_skip ?_);cases c₀;simp_all [bodyPostS,results,Tryz.results238]
theorem y5k p q n x y(A:List PanicEntry) w(s:w.cell? p=some x)(B:w.frozen? p=false)(F:(w.setCell p (.slice none 0 0)).cell? q=some y)(C:(w.setCell p (.slice none 0 0)).frozen? q=false) :
    CallsD prog 238 #[.pointer (some p),.pointer (some q)] (.panicking ({ v:=.iface 29 (.int .i64 n),recovered:=false }::A)) w fun e X w' =>
      e=.returned (.tuple #[])/\X=.panicking ({ v:=.iface 29 (.int .i64 n),recovered:=true }::A)/\w'=(w.setCell p (.slice none 0 0)).setCell q (.int .i64 n):=by
  refine callsD_of_wpS func238 rfl fun c₀ M W=>?_;apply wpS_seq;apply wpS_region;simp[wpOpsS,go_sem,recoverD,W,ntmps238,Exit.thenS,ta_ok];apply wpS_seq;apply wpS_region;simp[wpOpsS,go_sem,Exit.thenS];refine wpS_cond (t:=true) r2m ?_;simp only[if_true];apply wpS_region;simp[wpOpsS,go_sem,s,B,F,C,bodyPostS,results,Tryz.results238]
def fw(w:World)(fv:Value):World:=((w.alloc (.cells #[.slice none 0 0] 36)).alloc (.cells #[.int .i64 0] 29)).alloc (.cells #[fv,.slice none 0 0,.slice none 0 0] 314)
theorem z9I w fv:(fw w fv).heap[w.heap.size]?=some (.cells #[.slice none 0 0] 36 (0,0))/\(fw w fv).heap[w.heap.size+1]?=some (.cells #[.int .i64 0] 29 (0,0))/\(fw w fv).heap[w.heap.size+2]?=some (.cells #[fv,.slice none 0 0,.slice none 0 0] 314 (0,0))/\(fw w fv).heap.size=w.heap.size+3:=by
  have e:(fw w fv).heap=((w.heap.push (.cells #[.slice none 0 0] 36 (0,0))).push (.cells #[.int .i64 0] 29 (0,0))).push (.cells #[fv,.slice none 0 0,.slice none 0 0] 314 (0,0)):=rfl;rw[e];refine⟨?_,?_,?_,M7K⟩
  · grind
  · grind
  · rw[Array.getElem?_push];simp
theorem z9J w fv:Wk w.heap.size (fw w fv) (w.heap.size+2) fv [] [] (.slice none 0 0) (.slice none 0 0) :=
  ⟨(z9I w fv).2.2.1,f6J,Ok.nil _ _ _ _,Ok.nil _ _ _ _,fun g h=>by simp[Value.ownBlock]at h⟩
theorem y4e w fv:Bw w (fw w fv):=(((b0r).alloc (l0r _) _).alloc M7M _).alloc P8P _
theorem y4d{w w1 fv v out n}(z:Frm (fw w fv) w1 (w.heap.size+2) (.slice none 0 0) (.slice none 0 0))(N:Ok .i32 21 w1 w.heap.size v out) :
    w1.heap[w.heap.size]?=some (.cells #[.slice none 0 0] 36 (0,0))/\w1.heap[w.heap.size+1]?=some (.cells #[.int .i64 0] 29 (0,0)) /\
    (∀u,((w1.setCell ⟨w.heap.size,0,none⟩ u).setCell ⟨w.heap.size+1,0,none⟩ (.int .i64 n)).heap[w.heap.size]?=some (.cells #[u] 36 (0,0)) /\
     ((w1.setCell ⟨w.heap.size,0,none⟩ u).setCell ⟨w.heap.size+1,0,none⟩ (.int .i64 n)).heap[w.heap.size+1]?=some (.cells #[.int .i64 n] 29 (0,0)) /\
     (w1.setCell ⟨w.heap.size,0,none⟩ u).heap[w.heap.size+1]?=some (.cells #[.int .i64 0] 29 (0,0)) /\
     Bw w ((w1.setCell ⟨w.heap.size,0,none⟩ u).setCell ⟨w.heap.size+1,0,none⟩ (.int .i64 n)) /\
     Ok .i32 21 ((w1.setCell ⟨w.heap.size,0,none⟩ u).setCell ⟨w.heap.size+1,0,none⟩ (.int .i64 n)) w.heap.size v out):=by
  obtain⟨W,d,P,f⟩:=z9I w fv;have x:w1.heap[w.heap.size]?=some (.cells #[.slice none 0 0] 36 (0,0)):=(by rw[z.keep _ f6J f6J V3I V3I];exact W);have M:w1.heap[w.heap.size+1]?=some (.cells #[.int .i64 0] 29 (0,0)):=(by rw[z.keep _ f6J f6J V3I V3I];exact d);refine⟨x,M,fun u=>?_⟩;have A:(w1.setCell ⟨w.heap.size,0,none⟩ u).heap[w.heap.size+1]?=some (.cells #[.int .i64 0] 29 (0,0)):=(by rw[x0e _ f6J];exact M);refine⟨?_,?_,A,?_,?_⟩
  · rw[x0e _ f6J,x0c x];rfl
  · rw[x0c A];rfl
  · have Y:Bw w w1:=(y4e w fv).trans (z.below (z9J w fv) f6J)
    exact x0b (x0b Y (l0r _) u) f6J _
  · refine N.keep fun g Z=>?_
    obtain⟨Q,I⟩:=z0f N Z;have m:g≠w.heap.size:=fun e=>(by subst e;rw[x]at I;simp at I);have i:g≠w.heap.size+1:=fun e=>(by subst e;rw[M]at I;simp at I);rw[x0e _ i,x0e _ m]
theorem fullK g fa cb rs w(T:y2a g fa cb rs w)(m:∀args w,(callFunc g args).run prog w=.ok (.enter g args) w)(d:∀c,(Cn.opn rs c).length<=1000000000) c(I:Rune c) :
    Calls prog 188 #[.func (.func g) fa cb,.int .i32 c] w (x7J w (Cn.full rs c)):=by
  have K:=O (z2I g fa cb rs w T m d 16 [] c [] (fw w (.func (.func g) fa cb)) (w.heap.size+2) _ _ M7L M7L I (y4e w _) (z9J w _));have J:∀(fn:Fn) (first M:Array Value) (w:World),(Instr.makeFunc fn first M).run prog w=.ok (.func fn first M) w:=fun _ _ _ _=>rfl;have W:=Cn.x4g rs c;have S:=Cn.y4R rs 16 [] c [];change Hid (Calls _ _ _ _ (x5F _ _ _ _ _ _ _ (Cn.full rs c)))at K;change (Cn.full rs c).2≠0->(Cn.full rs c).1=[]at S;generalize Cn.full rs c=r at *;have D:Hid (r.2≠0->r.1=[]):=S;go_enter_defers func188,ntmps188;go_wp2_with fail;refine(V K).mono ?_;rintro P Q ⟨z,⟨t,N⟩ | ⟨R,rfl,F,H,A,G,q⟩⟩
  · unfold Gave at N
    subst N;obtain⟨x,k1,kk⟩:=y4d (n:=r.2) z (Ok.nil _ _ _ _);obtain⟨k,u,Z,b,L⟩:=kk (.slice none 0 0);have U:x7J w r (.returned (.tuple #[.slice none 0 0,.int .i64 r.2])) ((Q.setCell ⟨w.heap.size,0,none⟩ (.slice none 0 0)).setCell ⟨w.heap.size+1,0,none⟩ (.int .i64 r.2)):=⟨_,rfl,by rw[V D t];exact L,b⟩;have i:=cell_of (j:=0) k w8p;have y:=cell_of (j:=0) u w8p;refine leaves_cons (f:=238) (args:=#[.pointer (some ⟨w.heap.size,0,none⟩),.pointer (some ⟨w.heap.size+1,0,none⟩)]) M7L (by simp[go_sem]) ?_;refine(y5k ⟨w.heap.size,0,none⟩ ⟨w.heap.size+1,0,none⟩ r.2 _ _ [] Q (cell_of (j:=0) x w8p) (x0d x) (cell_of (j:=0) Z w8p) (x0d Z)).mono ?_;rintro e X w2 ⟨rfl,rfl,rfl⟩;generalize(Q.setCell ⟨w.heap.size,0,none⟩ (.slice none 0 0)).setCell ⟨w.heap.size+1,0,none⟩ (.int .i64 r.2)=p at *;have o:p.cell? ⟨w.heap.size,0,none⟩=some (.slice none 0 0):=i;have v:p.cell? ⟨w.heap.size+1,0,none⟩=some (.int .i64 r.2):=y;simp[Leaves,settle,results,Tryz.results188,go_sem,o,v];exact U
  · obtain⟨B,M,rfl,_,_⟩:=A.e.sk.shape
    obtain⟨x,k1,kk⟩:=y4d (n:=0) z A.e;obtain⟨k,u,Z,b,L⟩:=kk (.slice B r.1.length M);have U:x7J w r (.returned (.tuple #[.slice B r.1.length M,.int .i64 0])) ((Q.setCell ⟨w.heap.size,0,none⟩ (.slice B r.1.length M)).setCell ⟨w.heap.size+1,0,none⟩ (.int .i64 0)):=⟨_,by rw[R],L,b⟩;have x2:Q.cell? ⟨w.heap.size+1+1,2,none⟩=some (.slice B r.1.length M):=cell_of (j:=2) A.blk U4t;have l:Q.cell? ⟨w.heap.size,0,none⟩=some (.slice none 0 0):=cell_of (j:=0) x w8p;have E:Q.cell? ⟨w.heap.size+1,0,none⟩=some (.int .i64 0):=cell_of (j:=0) k1 w8p;have a:=x0d (j:=0) x;have s:=x0d (j:=0) k1;have C:(Q.setCell ⟨w.heap.size,0,none⟩ (.slice B r.1.length M)).cell? ⟨w.heap.size+1,0,none⟩=some (.int .i64 0):=cell_of (j:=0) Z w8p;have qf:=x0d (j:=0) Z;have i:((Q.setCell ⟨w.heap.size,0,none⟩ (.slice B r.1.length M)).setCell ⟨w.heap.size+1,0,none⟩ (.int .i64 0)).cell? ⟨w.heap.size,0,none⟩=some (.slice B r.1.length M):=cell_of (j:=0) k w8p;have y:((Q.setCell ⟨w.heap.size,0,none⟩ (.slice B r.1.length M)).setCell ⟨w.heap.size+1,0,none⟩ (.int .i64 0)).cell? ⟨w.heap.size+1,0,none⟩=some (.int .i64 0):=cell_of (j:=0) u w8p;have Y:=O i;have Z1:=O y;go_wp2;refine leaves_cons (f:=238) (args:=#[.pointer (some ⟨w.heap.size,0,none⟩),.pointer (some ⟨w.heap.size+1,0,none⟩)]) M7L (by simp[go_sem]) ?_;refine(y5l ⟨w.heap.size,0,none⟩ ⟨w.heap.size+1,0,none⟩ _).mono ?_;rintro e X w2 ⟨rfl,rfl,rfl⟩;have i:=V Y;have y:=V Z1;simp[Leaves,settle,results,Tryz.results188,go_sem,i,y];exact U
end Go.Proofs.YtkfcabdmkmljjaaGreatDoor
namespace Go.Proofs.YtkfcabdmkmljjaaGreatDoor.Cn
open Go.Proofs.Tryz
def x9s(lo hi s x:Int):Prop:=lo<=x/\x<=hi/\s∣x-lo
theorem y4I{lo1 hi1 s1 lo2 hi2 s2 c0:Int}{N:Nat}(Z:0<s1)(D:0<s2)(r:s2<=N)(g:lo1<=c0)(Y:lo2<=c0)(hd:s1∣c0-lo1)(F:∀x,lo1<=x->lo2<=x->s1∣x-lo1->c0<=x) :
  (∃x,x9s lo1 hi1 s1 x/\x9s lo2 hi2 s2 x)↔∃k:Nat,k<N/\c0+k*s1<=hi1/\c0+k*s1<=hi2/\s2∣c0+k*s1-lo2:=by
 constructor
 ·rintro⟨x,⟨d,P,f⟩,b1,u,z⟩;have E:=F x d b1 f
  obtain⟨j,X⟩:s1∣x-c0:=by
   have:=Int.dvd_sub f hd;rwa [(f6J:x-lo1-(c0-lo1)=x-c0)]at this
  have B:0<=j:=by
   rcases Int.lt_or_le j 0 with h | h
   ·have:=Int.mul_neg_of_pos_of_neg Z h;omega
   ·exact h
  have I:=Int.emod_nonneg j (f6J:s2≠0);have t:=Int.emod_lt_of_pos j D
  have A:j%s2<=j:=by
   have:=Int.emod_add_mul_ediv j s2;have:=Int.mul_nonneg (f6J:0<=s2) (Int.ediv_nonneg B (f6J:0<=s2));omega
  have i:j%s2*s1<=x-c0:=by
   rw[X,Int.mul_comm s1 j];exact Int.mul_le_mul_of_nonneg_right A f6J
  refine⟨(j%s2).toNat,f6J,?_,?_,?_⟩
  ·rw[Int.toNat_of_nonneg I];omega
  ·rw[Int.toNat_of_nonneg I];omega
  ·rw[Int.toNat_of_nonneg I];have e:c0+j%s2*s1-lo2=(x-lo2)-(j-j%s2)*s1:=(by grind);rw[e];refine Int.dvd_sub z (Int.dvd_mul_of_dvd_left ?_);exact Int.dvd_self_sub_emod
 ·rintro⟨k,_,M,o,S⟩;have C:0<=(k:Int)*s1:=Int.mul_nonneg f6J f6J;refine⟨c0+k*s1,⟨f6J,M,?_⟩,f6J,o,S⟩;rw[(f6J:c0+(k:Int)*s1-lo1=(c0-lo1)+k*s1)];exact Int.dvd_add hd (Int.dvd_mul_left _ _)
theorem x0F{r}(h:right r=0)(G:r.kind≠15) c:speaks r c=true↔x9s r.lo r.hi (step r) c:=by
 have L:=right_step h;have s:=x0p h G;unfold speaks x9s;rw[decide_eq_true_iff];constructor
 ·omega
 ·omega
theorem x8j(b:Rec){s hi:Int}(L:0<=s):∀(n:Nat) (c:Int),clashA b s hi n c=true↔∃k:Nat,k<n/\c+k*s<=hi/\speaks b (c+k*s)=true
 | 0,c=>by simp[clashA]
 | n+1,c=>by
  rw[clashA];split
  ·next hc =>
   rw[Bool.or_eq_true,x8j b L n];constructor
   ·rintro(h | ⟨k,Z,D,J⟩)
    ·exact⟨0,f6J,by simpa using hc,by simpa using h⟩
    ·refine⟨k+1,f6J,?_,?_⟩
     ·rw[(v6g:c+((k+1:Nat):Int)*s=c+s+k*s)];exact D
     ·rw[(v6g:c+((k+1:Nat):Int)*s=c+s+k*s)];exact J
   ·rintro⟨k,Z,D,J⟩
    cases k with
    | zero=>left;exact I8T
    | succ k =>
     right;rw[(v6g:c+((k+1:Nat):Int)*s=c+s+k*s)]at D J;exact⟨k,f6J,D,J⟩
  ·next hc =>
   exact V9e
theorem y8L{lo1 lo2 s}(h:0<s){c0:Int}(I:c0=if lo1<lo2 then lo1+(lo2-lo1+s-1) / s*s else lo1) :
  lo1<=c0/\lo2<=c0/\s∣c0-lo1/\∀x,lo1<=x->lo2<=x->s∣x-lo1->c0<=x:=by
 by_cases S:lo1<lo2
 ·rw[if_pos S]at I;have e:=Int.emod_add_mul_ediv (lo2-lo1+s-1) s;have R:=Int.emod_nonneg (lo2-lo1+s-1) (f6J:s≠0);have P:=Int.emod_lt_of_pos (lo2-lo1+s-1) h;rw[Int.mul_comm]at e;have y:s∣(lo2-lo1+s-1) / s*s:=Int.dvd_mul_left _ _;generalize(lo2-lo1+s-1) / s*s=q at *;subst I;refine⟨f6J,f6J,by rw[(f6J:lo1+q-lo1=q)];exact y,fun x a b d=>?_⟩;obtain⟨j,X⟩:=Int.dvd_sub y d;exact I1N
 ·simp_all
theorem x1M{a b}(g:right a=0)(Y:right b=0)(z:fam a.kind=fam b.kind)(G:a.kind≠15)(B:b.kind≠15):clash a b=true↔∃c,speaks a c=true/\speaks b c=true:=by
 have C:=right_step g;have E:=right_step Y;unfold clash;rw[if_neg p1J,if_neg G,x8j b f6J];obtain⟨s,v,t,o⟩:=y8L (lo1:=a.lo) (lo2:=max a.lo b.lo) (f6J:0<step a) rfl;generalize(if a.lo<max a.lo b.lo then a.lo+(max a.lo b.lo-a.lo+step a-1) / step a*step a else a.lo)=c0 at *;have:=y4I (hi1:=a.hi) (hi2:=b.hi) (N:=64) (lo1:=a.lo) (lo2:=b.lo) (s1:=step a) (s2:=step b) (c0:=c0) f6J f6J f6J s f6J t (fun x p q d=>o x p f6J d);constructor
 ·rintro⟨k,Z,D,J⟩;rw[x0F Y B]at J;obtain⟨x,A,hy⟩:=this.2 ⟨k,Z,f6J,f6J,J.2.2⟩;exact⟨x,(x0F g G x).2 A,(x0F Y B x).2 hy⟩
 ·rintro⟨x,A,hy⟩;obtain⟨k,Z,D,J,H⟩:=this.1 ⟨x,(x0F g G x).1 A,(x0F Y B x).1 hy⟩;refine⟨k,Z,f6J,(x0F Y B _).2 ⟨?_,J,H⟩⟩;have:=Int.mul_nonneg (f6J:(0:Int)<=k) (f6J:0<=step a);omega
theorem x9k{k}(h:fam k=10):k=15:=R8h
theorem y5r{a b}(g:right a=0)(Y:right b=0):clash a b=clash b a:=by
 by_cases z:fam a.kind=fam b.kind
 ·by_cases G:a.kind=15
  ·have B:b.kind=15:=x9k (by rw[<- z,G];exact e8M);unfold clash;rw[if_neg p1J,if_pos G,if_neg p1J,if_pos B];refine decide_eq_decide.2 ⟨?_,?_⟩
   ·grind
   ·rintro(⟨Z,D⟩ | ⟨Z,D⟩)
    ·exact .inl ⟨Z.symm,D.symm⟩
    ·exact .inr ⟨D.symm,Z.symm⟩
  ·have B:b.kind≠15:=fun e=>G (x9k (by rw[z,e];exact e8M));have Z:=x1M g Y z G B;have D:=x1M Y g z.symm B G;rw[Bool.eq_iff_iff,Z,D];constructor<;>exact fun⟨c,p,q⟩=>⟨c,q,p⟩
 ·unfold clash;rw[if_pos z,if_pos (fun e=>z e.symm)]
end Go.Proofs.YtkfcabdmkmljjaaGreatDoor.Cn
namespace Go.Proofs.YtkfcabdmkmljjaaGreatDoor.Cn
open Go.Proofs.Tryz
theorem getD_at{l:List Rec}{k}(h:k<l.length):l.getD k none=l[k]:=p8I
theorem x7A{l:List Rec}:∀(n i:Nat),l.length-i=n->i<=l.length->(x1x l i (l.drop i)=Option.none↔∀j,i<=j->(X:j<l.length)->∀k,(G:k<j)->clash l[k] l[j]=false)
 | 0,i,hn,hi=>by
  rw[List.drop_eq_nil_of_le f6J,x1x];exact⟨fun _ j a b=>f6J,fun _=>rfl⟩
 | n+1,i,hn,hi=>by
  have S:i<l.length:=f6J;rw[List.drop_eq_getElem_cons S,x1x];have B:=x7A (l:=l) n (i+1) f6J S
  have C:((l.take i).any fun k=>clash k l[i])=true↔∃k,∃G:k<i,clash l[k] l[i]=true:=by
   rw[List.any_eq_true];constructor
   ·rintro⟨x,A,I⟩;obtain⟨k,G,rfl⟩:=List.mem_take_iff_getElem.1 A;exact⟨k,f6J,I⟩
   ·rintro⟨k,G,I⟩;exact⟨l[k],List.mem_take_iff_getElem.2 ⟨k,f6J,rfl⟩,I⟩
  split
  ·next h =>
   obtain⟨k,G,I⟩:=C.1 h;exact⟨fun h=>(nomatch h),fun h=>by rw[h i (l0r _) S k G]at I;cases I⟩
  ·next h =>
   rw[B];constructor
   ·intro D j hij X k G;rcases Nat.eq_or_lt_of_le hij with rfl | hij
    ·exact Bool.eq_false_iff.2 fun I=>h (C.2 ⟨k,G,I⟩)
    ·exact D j hij X k G
   ·exact fun D j hij X k G=>D j f6J X k G
theorem x7q:∀(l:List Rec) (i:Nat),x0X i l=Option.none↔∀r∈l,right r=0
 | [],_=>⟨fun _ r hr=>absurd hr M7K,fun _=>rfl⟩
 | x::l,i=>by
  rw[x0X,List.forall_mem_cons];split
  ·next h=>rw[x7q l];exact⟨fun a=>⟨h,a⟩,fun a=>a.2⟩
  ·next h=>exact⟨fun a=>(nomatch a),fun a=>absurd a.1 h⟩
theorem x0k{l}:(check6 l).2=0↔l.length<=4096/\(∀r∈l,right r=0)/\l.Pairwise fun a b=>clash a b=false:=by
 have p:=x7A (l:=l) l.length 0 f6J f6J;rw[List.drop_zero]at p;have u:=x7q l 0;rw[List.pairwise_iff_getElem];unfold check6;split
 ·omega
 ·next h =>
  split
  ·next x hx =>
   refine⟨fun a=>absurd a (x2g _ _ _ hx),fun a=>?_⟩;rw[u.2 a.2.1]at hx;cases hx
  ·grind
theorem y0K(f c:Int):∀(l:List Rec) (i:Nat),0<=findA f c i l->∃k,∃G:k<l.length,findA f c i l=(i+k:Nat)/\fam l[k].kind=f/\speaks l[k] c=true
 | [],i,h=>by rw[findA]at h;exact f6J
 | r::l,i,h=>by
  rw[findA]at h ⊢;split
  ·next hr=>exact⟨0,M7M,M7M,hr.1,hr.2⟩
  ·next hr =>
   rw[if_neg hr]at h;obtain⟨k,G,Z,D,J⟩:=y0K f c l (i+1) h;exact⟨k+1,P8P,by rw[Z];congr 1;exact f6J,D,J⟩
theorem x4K(f c:Int):∀(l:List Rec) (i:Nat),(∃r∈l,fam r.kind=f/\speaks r c=true)->0<=findA f c i l
 | [],i,⟨r,hr,_⟩=>by cases hr
 | x::l,i,⟨r,hr,h1,h2⟩=>by
  rw[findA];split
  ·omega
  ·next hx =>
   rcases List.mem_cons.1 hr with rfl | hr
   ·exact absurd ⟨h1,h2⟩ hx
   ·exact x4K f c l (i+1) ⟨r,hr,h1,h2⟩
theorem x2m{l f c r}(h:hit l f c=some r):r∈l/\fam r.kind=f/\speaks r c=true:=by
 unfold hit at h;split at h
 ·cases h
 ·next hf =>
  cases h;unfold find at hf ⊢;split at hf
  ·omega
  ·next hg =>
   rw[if_neg hg];obtain⟨k,G,Z,D,J⟩:=y0K f c l 0 f6J;rw[Z,(f6J:((0+k:Nat):Int).toNat=k),getD_at G];exact⟨List.getElem_mem G,D,J⟩
theorem once{l}(h:(check6 l).2=0){f c a b}(g:a∈l)(Y:b∈l)(B:fam a.kind=f)(fb:fam b.kind=f)(E:speaks a c=true)(k:speaks b c=true):a=b:=by
 obtain⟨_,u,s⟩:=x0k.1 h;rw[List.pairwise_iff_getElem]at s
 have G:∀{x:Rec},speaks x c=true->x.kind≠15:=fun A=>by
  unfold speaks at A;exact(o0d A).1
 obtain⟨i,hi,rfl⟩:=List.getElem_of_mem g;obtain⟨j,X,rfl⟩:=List.getElem_of_mem Y;rcases Nat.lt_trichotomy i j with t | rfl | t
 ·have:=s i j hi X t;rw[Bool.eq_false_iff]at this;exact absurd ((x1M (u _ g) (u _ Y) (B.trans fb.symm) (G E) (G k)).2 ⟨c,E,k⟩) this
 ·rfl
 ·have:=s j i X hi t;rw[Bool.eq_false_iff]at this;exact absurd ((x1M (u _ Y) (u _ g) (fb.trans B.symm) (G k) (G E)).2 ⟨c,k,E⟩) this
theorem x1N{l}(h:(check6 l).2=0){f c}(z:f≠10/\f≠0) r:hit l f c=some r↔r∈l/\fam r.kind=f/\speaks r c=true:=by
 refine⟨x2m,fun⟨h1,h2,h3⟩=>?_⟩;have L:=x4K f c l 0 ⟨r,h1,h2,h3⟩
 have q:hit l f c=some (l.getD (find l f c).toNat none):=by
  unfold hit;rw[if_neg];unfold find;rw[if_neg f6J];omega
 obtain⟨i,A,M⟩:=x2m q;rw[q,once h i h1 A h2 M h3]
theorem y4j{l f c}(z:f≠10/\f≠0)(h:hit l f c=Option.none):∀r∈l,fam r.kind=f->speaks r c=false:=by
 intro r u D;refine Bool.eq_false_iff.2 fun J=>?_;have L:=x4K f c l 0 ⟨r,u,D,J⟩;unfold hit at h;rw[if_neg]at h
 ·cases h
 ·unfold find;rw[if_neg f6J];omega
end Go.Proofs.YtkfcabdmkmljjaaGreatDoor.Cn
namespace Go.Proofs.YtkfcabdmkmljjaaGreatDoor.Cn
open Go.Proofs.Tryz
def y1H(a b:Rec):Prop:=a.kind=7/\b.kind=7/\a.to.getD 0 0=b.to.getD 0 0/\a.to.getD 1 0=b.to.getD 1 0
theorem z3S{l i r}(x:r.kind=7):pair l i r=true↔pair l 0 r=true/\∀k∈l.take i,¬y1H k r:=by
 unfold pair;rw[Bool.and_eq_true,Bool.and_eq_true];have R:(!((l.take 0).any fun k=>decide (k.kind=7/\k.to.getD 0 0=r.to.getD 0 0/\k.to.getD 1 0=r.to.getD 1 0)))=true:=M7K
 have hi:(!((l.take i).any fun k=>decide (k.kind=7/\k.to.getD 0 0=r.to.getD 0 0/\k.to.getD 1 0=r.to.getD 1 0)))=true↔∀k∈l.take i,¬y1H k r:=by
  rw[Bool.not_eq_true',Bool.eq_false_iff,Ne,List.any_eq_true];constructor
  ·exact fun h k G ⟨a,_,b,c⟩=>h ⟨k,G,d0t ⟨a,b,c⟩⟩
  ·rintro h ⟨k,G,hd⟩;obtain⟨a,b,c⟩:=o0d hd;exact h k G ⟨a,x,b,c⟩
 rw[hi];exact⟨fun⟨a,b⟩=>⟨⟨a,R⟩,b⟩,fun⟨⟨a,_⟩,b⟩=>⟨a,b⟩⟩
def recF(l:List Rec)(r:Rec)(b:Bool):Int :=
 if fam r.kind≠2/\fam r.kind≠3 then 0
 else if covers r 0 127 then 70
 else if covers r 4352 4370||covers r 4449 4469||covers r 4520 4546||covers r 44032 55203 then 71
 else if r.kind=7/\((jl (r.to.getD 0 0)&&jv (r.to.getD 1 0))||(syl (r.to.getD 0 0)&&decide ((r.to.getD 0 0-44032)%28=0)&&jt (r.to.getD 1 0)))=true then 71
 else if fam r.kind=2 then 0
 else if(full l r.lo).2≠0 then(full l r.lo).2
 else if fallsA l (full l r.lo).1 then 75
 else if b=true then 74
 else 0
theorem x9T l i r:record l i r=recF l r (decide (r.kind=7/\pair l i r=false)):=by
 unfold record recF;simp only[decide_eq_true_eq]
theorem recF_two{l r}(z:fam r.kind=3):(recF l r true=recF l r false/\recF l r false≠0)\/(recF l r true=74/\recF l r false=0):=by
 unfold recF;have Z:¬(fam r.kind≠2/\fam r.kind≠3):=fun h=>h.2 z;have D:¬fam r.kind=2:=f6J;simp only[if_neg Z,if_neg D,if_true];by_cases y:covers r 0 127=true
 ·simp[y]
 ·grind
theorem x4Y{l i r}:record l i r=0↔record l 0 r=0/\∀k∈l.take i,¬y1H k r:=by
 rw[x9T,x9T];by_cases x:r.kind=7
 ·have A:=z3S (l:=l) (i:=i) x;have z:fam r.kind=3:=(by rw[x];exact e8M);have e:∀i,decide (r.kind=7/\pair l i r=false)=!(pair l i r):=fun i=>(by cases pair l i r<;>simp[x]);rw[e,e];rcases recF_two (l:=l) z with⟨Z,D⟩ | ⟨Z,D⟩
  ·grind
  ·grind
 ·have e:∀i,decide (r.kind=7/\pair l i r=false)=false:=fun i=>(by simp[x]);rw[e,e];exact⟨fun a=>⟨a,fun k _ s=>x s.2.1⟩,fun a=>a.1⟩
theorem x5B{l:List Rec}:∀(m:List Rec) (i:Nat),x0Q l i m=Option.none↔∀j,(X:j<m.length)->record l (i+j) m[j]=0
 | [],i=>⟨fun _ j X=>absurd X M7L,fun _=>rfl⟩
 | r::m,i=>by
  rw[x0Q];split
  ·next h =>
   rw[x5B m];constructor
   ·intro D j X
    cases j with
    | zero=>exact h
    | succ j =>
     have:=D j R2b;rwa [(f6J:i+1+j=i+(j+1))]at this
   ·intro D j X;have:=D (j+1) R2b;rwa [(f6J:i+(j+1)=i+1+j)]at this
  ·next h=>exact⟨fun a=>(nomatch a),fun a=>absurd (a 0 M7L) h⟩
theorem x3J{l:List Rec}:∀(m:List Rec) (i:Nat) (x:Nat×Int),x0Q l i m=some x->x.2≠0
 | [],_,_,h=>by rw[x0Q]at h;exact m5j
 | y::m,i,x,h=>by
  rw[x0Q]at h;split at h
  ·exact x3J m (i+1) x h
  ·next hx=>cases h;exact hx
theorem x1c{l}:(check l).2=0↔(check6 l).2=0/\(∀r∈l,record l 0 r=0)/\(l.Pairwise fun a b=>¬y1H a b)/\baseA l 78 45=true:=by
 have u:=x5B (l:=l) l 0
 have A:(∀j,(X:j<l.length)->record l (0+j) l[j]=0)↔(∀r∈l,record l 0 r=0)/\l.Pairwise fun a b=>¬y1H a b:=by
  rw[List.pairwise_iff_getElem];constructor
  ·intro h;refine⟨fun r u=>?_,fun i j hi X p=>?_⟩
   ·obtain⟨j,X,rfl⟩:=List.getElem_of_mem u;exact(x4Y.1 (h j X)).1
   ·exact(x4Y.1 (h j X)).2 _ (List.mem_take_iff_getElem.2 ⟨i,f6J,rfl⟩)
  ·rintro⟨Z,D⟩ j X;refine x4Y.2 ⟨Z _ (List.getElem_mem X),fun k G=>?_⟩;obtain⟨i,hi,rfl⟩:=List.mem_take_iff_getElem.1 G;exact D i j f6J X f6J
 unfold check;split
 ·omega
 ·next h =>
  split
  ·next x hx' =>
   refine⟨fun a=>absurd a (x3J _ _ _ hx'),fun a=>?_⟩;rw[u.2 (A.2 ⟨a.2.1,a.2.2.1⟩)]at hx';cases hx'
  ·grind
theorem z2D{a b}(g:right a=0)(Y:right b=0)(h:clash a b=false):clash b a=false:=by rw[y5r Y g];exact h
end Go.Proofs.YtkfcabdmkmljjaaGreatDoor.Cn
namespace Go.Proofs.YtkfcabdmkmljjaaGreatDoor.Cn
open Go.Proofs.Tryz
def x1u(f:Int)(s:List Rec):Prop:=(∀r∈s,right r=0/\fam r.kind=f)/\s.Pairwise fun a b=>a.hi<b.lo
def ahead(s:List Rec)(c:Int):Nat:=s.countP fun r=>decide (r.hi<c)
def near(s:List Rec)(c:Int):List Rec:=(s.drop (ahead s c)).take 1
theorem x4x{r}(h:fam r.kind=2\/fam r.kind=3):step r=1/\r.kind≠15/\r.kind≠4:=by
 have H:r.kind≠4:=by
  intro e;rw[e]at h;revert h;decide
 have K:r.kind≠15:=by
  intro e;rw[e]at h;revert h;decide
 exact⟨by unfold step;rw[if_neg H],K,H⟩
theorem x5g{r}(h:right r=0)(z:fam r.kind=2\/fam r.kind=3) c:speaks r c=true↔r.lo<=c/\c<=r.hi:=by
 obtain⟨Z,D,_⟩:=x4x z;rw[x0F h D,x9s,Z];constructor
 ·rintro⟨a,b,_⟩;exact⟨a,b⟩
 ·omega
theorem y6p{f}(z:f=2\/f=3){s}(hr:∀r∈s,right r=0/\fam r.kind=f)(I:s.Pairwise fun a b=>clash a b=false)(L:s.Pairwise fun a b=>a.lo<=b.lo):x1u f s:=by
 refine⟨hr,?_⟩;have h:=List.pairwise_and_iff.2 ⟨I,L⟩;refine h.imp_of_mem fun{a b} ha hb ⟨h1,h2⟩=>?_;obtain⟨g,B⟩:=hr a ha;obtain⟨A,fb⟩:=hr b hb;have D:fam a.kind=2\/fam a.kind=3:=f6J;have E:fam b.kind=2\/fam b.kind=3:=f6J;obtain⟨_,F,_⟩:=x4x D;obtain⟨_,C,_⟩:=x4x E;obtain⟨_,k,_⟩:=x0p A C;refine Int.not_le.1 fun i=>?_;have:clash a b=true:=(x1M g A f6J F C).2 ⟨b.lo,(x5g g D _).2 ⟨h2,i⟩,(x5g A E _).2 ⟨Int.le_refl _,k⟩⟩;rw[h1]at this;cases this
theorem x9L{s c r}(h:r∈near s c):r∈s:=List.mem_of_mem_drop (List.mem_of_mem_take h)
theorem y9W{f:Int}(z:f=2\/f=3):∀{s:List Rec} (_:x1u f s) {c:Int} {r:Rec} (_:r∈s) (_:r.lo<=c) (_:c<=r.hi),r∈near s c
 | [],_,_,_,h,_,_=>m5j
 | a::s,ho,c,r,h,h1,h2=>by
  obtain⟨hr,E⟩:=ho;rw[List.pairwise_cons]at E;by_cases g:a.hi<c
  ·have t:r≠a:=by rintro rfl;omega
   have o:r∈s:=by
    rcases List.mem_cons.1 h with e | e
    ·exact absurd e t
    ·exact e
   have B:=y9W z (s:=s) ⟨fun x hx=>hr x (List.mem_cons_of_mem _ hx),E.2⟩ o h1 h2
   have e:ahead (a::s) c=ahead s c+1:=by
    unfold ahead;rw[List.countP_cons_of_pos (by simpa using g)]
   unfold near;rw[e,List.drop_succ_cons];exact B
  ·have T:ahead (a::s) c=0:=by
    unfold ahead;rw[List.countP_eq_zero];intro x hx;rcases List.mem_cons.1 hx with rfl | A
    ·simpa using g
    ·have J:=E.1 x A;obtain⟨D,fx⟩:=hr x hx;obtain⟨_,C,_⟩:=x4x (r:=x) f6J;have:=x0p D C;simp;omega
   have e:r=a:=by
    rcases List.mem_cons.1 h with e | e
    ·exact e
    ·have:=E.1 r e;omega
   subst e;unfold near;rw[T];simp
theorem y6j{f s}(X:x1u f s) c:(check6 (near s c)).2=0:=by
 refine x0k.2 ⟨?_,fun r u=>(X.1 r (x9L u)).1,?_⟩
 ·unfold near;rw[List.length_take];omega
 ·have:(near s c).length<=1:=by unfold near;rw[List.length_take];omega
  match near s c,this with
  | [],_=>exact .nil
  | [_],_=>simp
  | _::_::_,h=>simp at h
theorem x9K{f}(z:f=2\/f=3){l s}(S:(check6 l).2=0)(X:x1u f s)(o:∀r,r∈s↔r∈l/\fam r.kind=f) c:hit (near s c) f c=hit l f c:=by
 have F:f≠10/\f≠0:=f6J;apply Option.ext;intro r;rw[x1N (y6j X c) F,x1N S F];constructor
 ·rintro⟨Z,D,J⟩;exact⟨((o r).1 (x9L Z)).1,D,J⟩
 ·rintro⟨Z,D,J⟩;have L:=(o r).2 ⟨Z,D⟩;have u:=X.1 r L;have:=(x5g u.1 f6J c).1 J;exact⟨y9W z X L this.1 this.2,D,J⟩
theorem z3I{l s}(S:(check6 l).2=0)(X:x1u 2 s)(o:∀r,r∈s↔r∈l/\fam r.kind=2) c:cls (near s c) c=cls l c:=by
 unfold cls;rw[x9K (.inl rfl) S X o]
theorem x9M{l s}(S:(check6 l).2=0)(X:x1u 3 s)(o:∀r,r∈s↔r∈l/\fam r.kind=3) c:opn (near s c) c=opn l c:=by
 unfold opn;rw[x9K (.inr rfl) S X o]
theorem y9X{l s}(S:(check6 l).2=0)(X:x1u 3 s)(o:∀r,r∈s↔r∈l/\fam r.kind=3) c:prim (near s c) c=prim l c:=by
 unfold prim;rw[x9M S X o,x9K (.inr rfl) S X o]
end Go.Proofs.YtkfcabdmkmljjaaGreatDoor.Cn
namespace Go.Proofs.YtkfcabdmkmljjaaGreatDoor
open Go.Proofs.Tryz
open Go.RowKit
theorem y5S x w:Calls prog 237 #[.int .i64 x] w fun e w'=>e=.returned (.bool false)/\w'=w:=by
 have A:(x != x)=false:=M7L;go_enter func237,ntmps237;exact t6u
theorem x2J x y w:Calls prog 183 #[.int .i64 x,.int .i64 y] w fun e w'=>e=.returned (.int .i64 (Lib.compareInt x y))/\w'=w:=by
 have K:=O y5S;have U:∀r,r=Lib.compareInt x y->(Ending.returned (.int .i64 r)=.returned (.int .i64 (Lib.compareInt x y))/\w=w):=fun r h=>(by subst h;exact g9T);have m:x<y->Lib.compareInt x y=-1:=fun h=>(by unfold Lib.compareInt;rw[if_pos h]);have T:y<x->Lib.compareInt x y=1:=fun h=>(by unfold Lib.compareInt;rw[if_neg f6J,if_pos f6J]);have c:¬x<y->¬y<x->Lib.compareInt x y=0:=fun Z D=>(by unfold Lib.compareInt;rw[if_neg Z,if_neg f6J]);by_cases Z:x<y
 ·rw[m Z];exact M1m
 ·by_cases D:y<x
  ·rw[T D];exact M1m
  ·rw[c Z D];exact M1m
theorem y2S r vt c w:Calls prog 273 #[recV r vt,.int .i64 c] w fun e w'=>e=.returned (.int .i64 (Lib.compareInt r.hi c))/\Bw w w':=by
 have K:=O (fun W=>x2J r.hi c W);unfold recV;have x:∀o,Bw w (w.alloc o):=fun o=>(b0r).alloc (l0r _) _;have I:=O x;go_enter func273,ntmps273;go_wp2_with fail;refine(V K _).mono ?_;rintro e Q ⟨rfl,rfl⟩;go_wp2;go_ret;exact⟨rfl,V I _⟩
def Bdry(s:List Rec)(c:Int)(lo hi:Nat):Prop:=(∀t,t<lo->(s.getD t Cn.none).hi<c)/\(∀t,hi<=t->t<s.length->¬(s.getD t Cn.none).hi<c)
def y2b(w:World)(s:List Rec)(c:Int)(e:Ending)(w':World):Prop:=∃(k:Nat) (b:Bool),e=.returned (.tuple #[.int .i64 k,.bool b])/\Below w.heap.size w w'/\k<=s.length/\Bdry s c k k
theorem y6L v s c w(N:Rcs w v s)(R:∀a b,a<=b->b<s.length->(s.getD b Cn.none).hi<c->(s.getD a Cn.none).hi<c) :
  Calls prog 272 #[v,.int .i64 c,.func (.func 273) #[] #[]] w (y2b w s c):=by
 have eg:∀D w,(callFunc 273 D).run prog w=.ok (.enter 273 D) w:=enters_of func273 f4y rfl;have KN:=O (fun r vt W=>y2S r vt c W);have HM:=O R;have d:=N.1;rcases Nat.eq_zero_or_pos s.length with n0 | n0
 ·obtain⟨ao,M,rfl,_,_⟩:=N.shape;have E:y2b w s c (.returned (.tuple #[.int .i64 0,.bool false])) w:=⟨0,false,rfl,b0r,f6J,fun t p=>f6J,fun t _ p=>f6J⟩;rw[n0];go_enter func272,ntmps272;go_wp2;refine wp_loop_rounds 1 ?_;rw[rounds_succ];go_wp2;go_ret2;exact E
 ·obtain⟨b,P,M,rfl,af,x,q⟩:=N.place n0;have C:Hid (∀i,i<s.length->∀W,Bw w W->RecAt W b (P+i*8) (s.getD i Cn.none)):=fun i hi W Y=>(q i hi).below Y;go_enter func272,ntmps272;go_wp2;go_loopw[9,10,11] (fun i j _ wr=>∃lo hi:Nat,i=.int .i64 lo/\j=.int .i64 hi/\lo<=hi/\hi<=s.length/\Bw w wr/\Hid (Bdry s c lo hi)) (fun i j _ _=>(intOf j).toNat-(intOf i).toNat)
  case atStart=>exact⟨0,s.length,rfl,rfl,f6J,f6J,b0r,⟨fun t p=>f6J,fun t Z h2=>f6J⟩⟩
  case round =>
   obtain⟨lo,hi,rfl,rfl,ag,o,T,I⟩:=hrel;by_cases ai:lo<hi
   ·have G:(lo+hi) / 2<s.length:=f6J;have n:=V C ((lo+hi) / 2) G wr T;obtain⟨g,S,x2,K,⟨vt,x4,f⟩,m,u,k⟩:=n;obtain⟨A,J,rfl,_,_⟩:=f.shape;have KC:=O (V KN (s.getD ((lo+hi) / 2) Cn.none) (.slice A (s.getD ((lo+hi) / 2) Cn.none).to.length J) wr);unfold recV at KC
    have L:Hid ((s.getD ((lo+hi) / 2) Cn.none).hi<c->Bdry s c ((lo+hi) / 2+1) hi):=fun h =>
     ⟨fun t p=>V HM t ((lo+hi) / 2) f6J G h,(V I).2⟩
    have y:Hid (¬(s.getD ((lo+hi) / 2) Cn.none).hi<c->Bdry s c lo ((lo+hi) / 2)):=fun h =>
     ⟨(V I).1,fun t p U h2=>h (V HM ((lo+hi) / 2) t p U h2)⟩
    have l:∀z,Lib.compareInt z c<0↔z<c:=fun z=>(by unfold Lib.compareInt;exact t3k);have ae:=l (s.getD ((lo+hi) / 2) Cn.none).hi;generalize s.getD ((lo+hi) / 2) Cn.none=r at *;by_cases hz:r.hi<c
    ·have B:=ae.2 hz;have X:=O (V L hz);generalize Lib.compareInt r.hi c=z at *;go_wp2_with fail;refine c0m KC fun Q F=>?_;have H:=bthen T F;go_wp2
     go_roundw
     case rel=>exact⟨(lo+hi) / 2+1,hi,g2A,rfl,f6J,f6J,H,X⟩
     case measure=>exact g7W
    ·have B:¬Lib.compareInt r.hi c<0:=fun h=>hz (ae.1 h);have X:=O (V y hz);generalize Lib.compareInt r.hi c=z at *;go_wp2_with fail;refine c0m KC fun Q F=>?_;have H:=bthen T F;go_wp2
     go_roundw
     case rel=>exact⟨lo,(lo+hi) / 2,rfl,g2A,f6J,f6J,H,X⟩
     case measure=>exact g7W
   ·obtain rfl:hi=lo:=f6J;have ab:Hid (∀(b:Bool) W,Bw w W->y2b w s c (.returned (.tuple #[.int .i64 (hi:Int),.bool b])) W):=fun b W h=>⟨hi,b,rfl,h,o,V I⟩;by_cases hn:hi<s.length
    ·have n:=V C hi hn wr T;obtain⟨g,S,x2,K,⟨vt,x4,f⟩,m,u,k⟩:=n;obtain⟨A,J,rfl,_,_⟩:=f.shape;have KC:=O (V KN (s.getD hi Cn.none) (.slice A (s.getD hi Cn.none).to.length J) wr);unfold recV at KC;generalize s.getD hi Cn.none=r at g S x2 K x4 m u k KC;generalize Lib.compareInt r.hi c=z at *;go_wp2_with fail;refine c0m KC fun Q F=>?_;have H:=bthen T F;go_wp2;go_ret2;exact V ab _ _ H
    ·clear C KN HM I;go_wp2;go_ret2;exact V ab _ _ T
theorem Rcs.sub{w ao len cap k s}(h:Rcs w (.slice ao len cap) s)(S:s.length=len)(G:k<len):∃b off,ao=some ⟨b,off,none⟩/\Rcs w (.slice (some ⟨b,off+k*8,none⟩) 1 (cap-k)) ((s.drop k).take 1):=by
 obtain⟨Z,D,J⟩:=h;rcases J with⟨rfl,Q,A,N,o⟩ | ⟨b,off,A,N,B,o,I⟩
 ·simp at S;omega
 ·simp only[Value.slice.injEq]at N;obtain⟨rfl,e,rfl⟩:=N;have l:((s.drop k).take 1).length=1:=P8P;refine⟨b,off,rfl,f6J,fun r u=>D r (List.mem_of_mem_drop (List.mem_of_mem_take u)),.inr ⟨b,off+k*8,cap-k,by rw[l],f6J,f6J,fun i hi=>?_⟩⟩;obtain rfl:i=0:=f6J;have:=I k f6J;rw[(I1O:((s.drop k).take 1).getD 0 Cn.none=s.getD k Cn.none),Nat.zero_mul,Nat.add_zero];exact this
theorem y5e{s c}:∀{k:Nat},k<=s.length->Bdry s c k k->Cn.ahead s c=k:=by
 induction s with
 | nil=>intro k G _;simp at G;subst G;rfl
 | cons a s ih =>
  intro k G ⟨Z,D⟩
  cases k with
  | zero =>
   unfold Cn.ahead;rw[List.countP_eq_zero];intro x A;obtain⟨t,p,rfl⟩:=List.getElem_of_mem A;have:=D t (Nat.zero_le _) p;rw[show(a::s).getD t Cn.none=(a::s)[t]from by rw[List.getD_eq_getElem?_getD,List.getElem?_eq_getElem p];rfl]at this;exact W2K
  | succ k =>
   have R:a.hi<c:=(by simpa using Z 0 f6J);have:Cn.ahead s c=k:=ih (by simpa using G) ⟨fun t p=>by simpa using Z (t+1) f6J,fun t p B=>by simpa using D (t+1) f6J P8P⟩;unfold Cn.ahead at this ⊢;rw[List.countP_cons_of_pos (by simpa using R),this]
theorem y1q{f}(z:f=2\/f=3){s}(X:Cn.x1u f s) c:∀a b,a<=b->b<s.length->(s.getD b Cn.none).hi<c->(s.getD a Cn.none).hi<c:=by
 intro a b B Y h;rcases Nat.lt_or_eq_of_le B with E | rfl
 ·have D:=List.pairwise_iff_getElem.1 X.2 a b f6J Y E;have eb:s.getD b Cn.none=s[b]:=(by grind);have ea:s.getD a Cn.none=s[a]:=(by grind);rw[eb]at h;rw[ea];obtain⟨A,fb⟩:=X.1 s[b] (List.getElem_mem Y);obtain⟨_,C,_⟩:=Cn.x4x (r:=s[b]) f6J;have:=Cn.x0p A C;omega
 ·exact h
def z5A(w0 w:World)(s:List Rec)(e:Ending)(w':World):Prop:=∃v,e=.returned v/\Rcs w0 v s/\Below w.heap.size w w'
theorem x9J v s c f(z:f=2\/f=3) w0 w(N:Rcs w0 v s)(T:Bw w0 w)(X:Cn.x1u f s)(I:Rune c):Calls prog 241 #[v,.int .i32 c] w (z5A w0 w (Cn.near s c)):=by
 have K:=O (y6L v s c w (N.below T) (y1q z X c));have d:=N.1;obtain⟨B,M,rfl,J,x⟩:=N.shape;obtain⟨W,y⟩:=I;have R:=O N;go_enter func241,ntmps241;go_wp2_with fail;refine(V K).mono ?_;rintro e H ⟨k,b,rfl,F,G,D⟩;have g:=y5e G D;by_cases E:k<s.length
 ·obtain⟨l,P,rfl,A⟩:=(V R).sub rfl E;have U:z5A w0 w (Cn.near s c) (.returned (.slice (some ⟨l,P+k*8,none⟩) 1 (M-k))) H:=⟨_,rfl,by unfold Cn.near;rw[g];exact A,F⟩;have S:min ((k:Int)+1) (s.length:Int)=(k:Int)+1:=f6J;have L:¬M-k=0:=f6J;exact m2H
 ·obtain rfl:k=s.length:=f6J;have U:∀Q m,m<=9223372036854775807->z5A w0 w (Cn.near s c) (.returned (.slice Q 0 m)) H:=fun Q m o=>⟨_,rfl,by unfold Cn.near;rw[g,List.drop_length];exact⟨M7L,fun _ h=>m5l,.inl ⟨rfl,Q,_,rfl,o⟩⟩,F⟩;have S:min ((s.length:Int)+1) (s.length:Int)=(s.length:Int):=f6J;go_wp2
  all_goals
   go_ret;exact U _ _ f6J
structure Idx(l:List Rec)(w0:World)(cv ov:Value)(cs os:List Rec):Prop where
 rc:Rcs w0 cv cs
 ro:Rcs w0 ov os
 oc:Cn.x1u 2 cs
 oo:Cn.x1u 3 os
 mc:∀r,r∈cs↔r∈l/\Cn.fam r.kind=2
 mo:∀r,r∈os↔r∈l/\Cn.fam r.kind=3
 ok:(Cn.check6 l).2=0
theorem Idx.below{l w0 w1 cv ov cs os}(h:Idx l w0 cv ov cs os)(Y:Bw w0 w1):Idx l w1 cv ov cs os:={ h with rc:=h.rc.below Y,ro:=h.ro.below Y }
def xV(cv ov mv:Value):Value:=.agg #[cv,ov,mv]
theorem x5n l cs os cv ov mr c w(C:Glob w)(h:Idx l w cv ov cs os)(I:Rune c):Calls prog 190 #[xV cv ov (.map (some mr)),.int .i32 c] w (IntB w (Cn.cls l c)):=by
 obtain⟨s,Z,rfl,_,_⟩:=h.rc.shape;obtain⟨P,D,rfl,_,_⟩:=h.ro.shape;have Y:Bw w (w.alloc (.cells #[.slice s cs.length Z,.slice P os.length D,.map (some mr)] 168)):=(b0r).alloc (l0r _) _;have K:=O (x9J _ cs c 2 (.inl rfl) w _ h.rc Y h.oc I);have j:=O (fun W v' (Y:Bw w W) (N:Rcs w v' (Cn.near cs c))=>z9e v' (Cn.near cs c) c W (C.on Y) (N.below Y) I);rw[Cn.z3I h.ok h.oc h.mc]at j;generalize Cn.cls l c=z at *;unfold xV;go_enter func190,ntmps190;go_wp2_with fail;refine(V K).mono ?_;rintro e Q ⟨a,rfl,d,F⟩;have r:=O (V j Q a (bthen Y F) d);have H:=bthen Y F;obtain⟨E,B,rfl,_,_⟩:=d.shape;go_wp2_with fail;refine c0m r fun t L=>?_;have U:IntB w z (.returned (.int .i64 z)) t:=⟨rfl,bthen H L⟩;go_wp2;go_ret;exact U
theorem x7I l cs os cv ov mr c w0 w(C:Glob w0)(h:Idx l w0 cv ov cs os)(m:Bw w0 w)(I:Rune c):Calls prog 189 #[xV cv ov (.map (some mr)),.int .i32 c] w (OpB w0 w (Cn.opn l c)):=by
 obtain⟨s,Z,rfl,_,_⟩:=h.rc.shape;obtain⟨P,D,rfl,_,_⟩:=h.ro.shape;have Y:Bw w (w.alloc (.cells #[.slice s cs.length Z,.slice P os.length D,.map (some mr)] 168)):=(b0r).alloc (l0r _) _;have K:=O (x9J _ os c 3 (.inr rfl) w0 _ h.ro (m.trans (Y.mono m.size)) h.oo I);have j:=O (fun W v' (Y:Bw w W) (N:Rcs w0 v' (Cn.near os c))=>x8D v' (Cn.near os c) c w0 W ((C.on m).on Y) N (m.trans (Y.mono m.size)) I);rw[Cn.x9M h.ok h.oo h.mo]at j;generalize Cn.opn l c=z at *;unfold xV;go_enter func189,ntmps189;go_wp2_with fail;refine(V K).mono ?_;rintro e Q ⟨a,rfl,d,F⟩;have r:=O (V j Q a (bthen Y F) d);have H:=bthen Y F;obtain⟨E,B,rfl,_,_⟩:=d.shape;go_wp2_with fail;refine(V r).mono ?_;rintro e t ⟨A,rfl,G,L⟩;have U:OpB w0 w z (.returned A) t:=⟨A,rfl,G.imp id (fun h=>h.lower H.size),bthen H L⟩;exact m2G
theorem z1R l cs os cv ov mr c w(C:Glob w)(h:Idx l w cv ov cs os)(I:Rune c):Calls prog 191 #[xV cv ov (.map (some mr)),.int .i32 c] w (x0g w (Cn.prim l c).isSome):=by
 obtain⟨s,Z,rfl,_,_⟩:=h.rc.shape;obtain⟨P,D,rfl,_,_⟩:=h.ro.shape;have Y:Bw w (w.alloc (.cells #[.slice s cs.length Z,.slice P os.length D,.map (some mr)] 168)):=(b0r).alloc (l0r _) _;have K:=O (x9J _ os c 3 (.inr rfl) w _ h.ro Y h.oo I);have j:=O (fun W v' (Y:Bw w W) (N:Rcs w v' (Cn.near os c))=>primC v' (Cn.near os c) c W (C.on Y) (N.below Y) I);rw[Cn.y9X h.ok h.oo h.mo]at j;generalize Cn.prim l c=z at *;unfold xV;go_enter func191,ntmps191;go_wp2_with fail;refine(V K).mono ?_;rintro e Q ⟨a,rfl,d,F⟩;have r:=O (V j Q a (bthen Y F) d);have H:=bthen Y F;obtain⟨E,B,rfl,_,_⟩:=d.shape;go_wp2_with fail;refine c0m r fun t L=>?_;have U:x0g w z.isSome (.returned (.bool z.isSome)) t:=⟨rfl,bthen H L⟩;go_wp2;go_ret;exact U
theorem q1u l cs os cv ov mr w(C:Glob w)(h:Idx l w cv ov cs os):y2a 189 #[xV cv ov (.map (some mr))] #[] l w :=
 fun c W R I=>x7I l cs os cv ov mr c w W C h R I
theorem idx_len{l cs os cv ov w}(h:Idx l w cv ov cs os) c:(Cn.opn l c).length<=1000000000:=by
 rw[<- Cn.x9M h.ok h.oo h.mo];unfold Cn.opn;split
 ·exact f1X
 ·cases hh:Cn.hit (Cn.near os c) 3 c with
  | none=>simp
  | some r =>
   obtain⟨Z,_,_⟩:=Cn.x2m hh;exact(h.ro.2.1 r (Cn.x9L Z)).len
theorem z1Q l cs os cv ov mr c w(C:Glob w)(h:Idx l w cv ov cs os)(I:Rune c):Calls prog 188 #[.func (.func 189) #[xV cv ov (.map (some mr))] #[],.int .i32 c] w (x7J w (Cn.full l c)) :=
 fullK 189 _ _ l w (q1u l cs os cv ov mr w C h) (enters_of func189 f4x rfl) (idx_len h) c I
theorem hmeets_any b r x y w(Z:w.cell? ⟨b,1,none⟩=some (.int .i64 r.lo))(D:w.cell? ⟨b,2,none⟩=some (.int .i64 r.hi)):Calls prog 184 #[.int .i64 x,.int .i64 y,.pointer (some ⟨b,0,none⟩)] w fun e w'=>e=.returned (.bool (Cn.covers r x y))/\w'=w:=by
 unfold Cn.covers;by_cases C:r.lo<=y
 ·by_cases s:x<=r.hi
  ·rw[d0t ⟨C,s⟩];exact t0t
  ·rw[d0f (fun h=>s h.2)];have g:decide (x<=r.hi)=false:=d0f s;exact t0t
 ·rw[d0f (fun h=>C h.1)];exact t0t
def touches(r:Rec):Bool:=Cn.covers r 4352 4370||Cn.covers r 4449 4469||Cn.covers r 4520 4546||Cn.covers r 44032 55203
theorem x3P r ao len cap w:Calls prog 138 #[recV r (.slice ao len cap)] w (x0g w (touches r)):=by
 have Y:Bw w (w.alloc (.cells #[.int .i64 r.kind,.int .i64 r.lo,.int .i64 r.hi,.int .i64 r.n,.slice ao len cap,.string r.name,.string r.other,.float .f64 r.wt] 60)):=(b0r).alloc (l0r _) _;have K:=O (fun x y=>hmeets_any w.heap.size r x y (w.alloc (.cells #[.int .i64 r.kind,.int .i64 r.lo,.int .i64 r.hi,.int .i64 r.n,.slice ao len cap,.string r.name,.string r.other,.float .f64 r.wt] 60)) M7L M7L);have m:∀D w,(callFunc 184 D).run prog w=.ok (.enter 184 D) w:=enters_of func184 f4x rfl;have J:∀(fn:Fn) (first cap:Array Value) (w:World),(Instr.makeFunc fn first cap).run prog w=.ok (.func fn first cap) w:=fun _ _ _ _=>rfl;have B:=O Y;have i:=O (V K 4352 4370);have j:=O (V K 4449 4469);have k:=O (V K 4520 4546);have E:=O (V K 44032 55203);have R:touches r=(Cn.covers r 4352 4370||Cn.covers r 4449 4469||Cn.covers r 4520 4546||Cn.covers r 44032 55203):=rfl;rw[R];generalize Cn.covers r 4352 4370=c1,Cn.covers r 4449 4469=c2,Cn.covers r 4520 4546=c3,Cn.covers r 44032 55203=c4 at *;unfold recV;cases c1
 ·cases c2
  ·cases c3
   ·rw[(M7L:(false||false||false||c4)=c4)];go_enter func138,ntmps138;go_wp2_with fail;refine(V i).mono ?_;rintro e Q ⟨rfl,rfl⟩;go_wp2_with fail;refine(V j).mono ?_;rintro e Q ⟨rfl,rfl⟩;go_wp2_with fail;refine(V k).mono ?_;rintro e Q ⟨rfl,rfl⟩;go_wp2_with fail;refine(V E).mono ?_;exact v1g
   ·rw[(M7L:(false||false||true||c4)=true)];go_enter func138,ntmps138;go_wp2_with fail;refine(V i).mono ?_;rintro e Q ⟨rfl,rfl⟩;go_wp2_with fail;refine(V j).mono ?_;rintro e Q ⟨rfl,rfl⟩;go_wp2_with fail;refine(V k).mono ?_;exact v1g
  ·rw[(M7L:(false||true||c3||c4)=true)];go_enter func138,ntmps138;go_wp2_with fail;refine(V i).mono ?_;rintro e Q ⟨rfl,rfl⟩;go_wp2_with fail;refine(V j).mono ?_;exact v1g
 ·rw[(M7L:(true||c2||c3||c4)=true)];go_enter func138,ntmps138;go_wp2_with fail;refine(V i).mono ?_;exact v1g
def makes(a b:Int):Bool:=(Cn.jl a&&Cn.jv b)||(Cn.syl a&&decide ((a-44032)%28=0)&&Cn.jt b)
theorem y9K a b w:Calls prog 139 #[.int .i32 a,.int .i32 b] w fun e w'=>e=.returned (.bool (makes a b))/\w'=w:=by
 have l:=O (x6R a w);by_cases L:Cn.syl a=true
 ·have F:44032<=a/\a<=55203:=M4F;rw[L]at l;have i:=O (y4Q a w F);have j:=O (x3l b 4520 4546 w)
  have e:makes a b=(decide ((a-44032)%28=0)&&decide (4520<=b/\b<=4546)):=by
   unfold makes;rw[L,show Cn.jl a=false by unfold Cn.jl;exact d0f f6J];simp[Cn.jt]
  rw[e];generalize decide (4520<=b/\b<=4546)=z at *;by_cases R:(a-44032)%28=0
  ·rw[d0t R,Bool.true_and];rw[R]at i;exact U4J
  ·rw[d0f R,Bool.false_and];generalize(a-44032)%28=t at *;have p:(t==0)=false:=b0f R;exact e6s
 ·have F:Cn.syl a=false:=U9l;rw[F]at l;have i:=O (x3l a 4352 4370 w);have j:=O (x3l b 4449 4469 w)
  have e:makes a b=(decide (4352<=a/\a<=4370)&&decide (4449<=b/\b<=4469)):=by
   unfold makes;rw[F];simp[Cn.jl,Cn.jv]
  rw[e];generalize decide (4352<=a/\a<=4370)=y,decide (4449<=b/\b<=4469)=z at *;cases y
  ·rw[Bool.false_and];exact e6s
  ·rw[Bool.true_and];exact U4J
namespace Cn
theorem y3h{r}(h:right r=0)(y:r.kind=6):1<=r.n/\r.n<=254:=by
 have z:=x0x h;unfold right at h;rw[if_neg z,if_neg f6J]at h;have I:=x1v h;rw[Bool.and_eq_true,if_neg f6J,if_neg f6J,if_neg f6J,if_neg f6J,if_neg f6J,if_pos y]at I;have D:=I.2;simp only[Bool.and_eq_true]at D;exact o0d D.2
theorem z6e{l}(h:(check6 l).2=0) c:0<=cls l c:=by
 unfold cls
 cases hh:hit l 2 c with
 | none=>simp
 | some r =>
  obtain⟨Z,D,_⟩:=x2m hh;have u:=(x1H h).2 r Z
  have G:r.kind=6:=by
   revert D;exact r2C
  have:=y3h u G;simp only;omega
def x2a(l:List Rec):Int->List Int->Bool
 | _,[]=>false
 | a,b::r=>decide (cls l b≠0/\cls l b<a)||x2a l (cls l b) r
theorem y8C(l:List Rec):∀(a:Int) (r:List Int),fallsA l (a::r)=x2a l (cls l a) r
 | _,[]=>rfl
 | a,b::r=>by rw[fallsA,x2a,y8C l b r]
theorem z6w{l:List Rec}(h:(check6 l).2=0):∀x:List Int,fallsA l x=x2a l 0 x
 | []=>rfl
 | a::r=>by
  rw[y8C,x2a,d0f (fun q=>by have:=z6e h a;exact f6J),Bool.false_or]
theorem y2x{l a}{x:List Int}{k}(G:k<x.length):x2a l a (x.drop k)=(decide (cls l (x.getD k 0)≠0/\cls l (x.getD k 0)<a)||x2a l (cls l (x.getD k 0)) (x.drop (k+1))):=by
 rw[List.drop_eq_getElem_cons G,x2a];exact w7Y
def wfull(l:List Rec)(c:Int):Int:=if(full l c).2≠0 then(full l c).2 else if fallsA l (full l c).1 then 75 else 0
end Cn
theorem y1W l cs os cv ov mr c w(hg:Glob w)(h:Idx l w cv ov cs os)(hc:Rune c):Calls prog 140 #[xV cv ov (.map (some mr)),.int .i32 c] w (IntB w (Cn.wfull l c)):=by
 obtain⟨s,Z,rfl,_,_⟩:=h.rc.shape;obtain⟨P,D,rfl,_,_⟩:=h.ro.shape;have hb:Bw w (w.alloc (.cells #[.slice s cs.length Z,.slice P os.length D,.map (some mr)] 168)):=(b0r).alloc (l0r _) _;have K:=O (z1Q l cs os _ _ mr c _ (hg.on hb) (h.below hb) hc);have b:=O (fun W x (hW:Bw w W) (hx:Rune x)=>x5n l cs os _ _ mr x W (hg.on hW) (h.below hW) hx)
 have HX:Hid (∀W,Below (w.heap.size+1) (w.alloc (.cells #[.slice s cs.length Z,.slice P os.length D,.map (some mr)] 168)) W->W.cell? ⟨w.heap.size,0,none⟩=some (.slice s cs.length Z)/\W.cell? ⟨w.heap.size,1,none⟩=some (.slice P os.length D)/\W.cell? ⟨w.heap.size,2,none⟩=some (.map (some mr))):=fun W hW=>by
  refine⟨?_,?_,?_⟩
  all_goals
   rw[hW.cell (by show w.heap.size<_;exact f6J)];simp
 have aB:∀(fn:Fn) (first M:Array Value) (w:World),(Instr.makeFunc fn first M).run prog w=.ok (.func fn first M) w:=fun _ _ _ _=>rfl;have az:=Cn.z6w h.ok (Cn.full l c).1;have aj:=Cn.x4g l c;have S:Hid ((Cn.full l c).2≠0->Cn.wfull l c=(Cn.full l c).2):=fun q=>if_pos q;have y:Hid ((Cn.full l c).2=0->Cn.wfull l c=if Cn.x2a l 0 (Cn.full l c).1 then 75 else 0):=fun q=>(by unfold Cn.wfull;rw[if_neg f6J,az]);generalize Cn.full l c=f,Cn.wfull l c=R at *;obtain⟨X,er⟩:=f;simp only at S y aj;unfold xV at *;have H:(w.alloc (.cells #[.slice s cs.length Z,.slice P os.length D,.map (some mr)] 168)).heap.size=w.heap.size+1:=M7N;go_enter func140,ntmps140;go_wp2_with fail;refine(V K).mono ?_;rintro e Q ⟨v1,rfl,o,ag⟩;simp only at o;rw[H]at ag o;have g:Bw w Q:=hb.trans (ag.mono f6J);by_cases he:er=0
 ·subst he;have I:=V y rfl;rcases Nat.eq_zero_or_pos X.length with n0 | n0
  ·obtain rfl:X=[]:=List.eq_nil_of_length_eq_zero n0
   have U:IntB w R (.returned (.int .i64 0)) Q:=by
    rw[I];exact⟨rfl,g⟩
   obtain⟨ao,M,rfl,_,_⟩:=o.sk.shape;go_wp2;refine wp_loop_rounds 1 ?_;rw[rounds_succ];exact m2I
  ·have aq:=o.sk;obtain⟨xb,ar,aA,rfl,aC,aD,p⟩:=aq.place n0
   have C:Hid (∀W,Below (w.heap.size+1) (w.alloc (.cells #[.slice s cs.length Z,.slice P os.length D,.map (some mr)] 168)) W->Bw Q W->∀i,i<X.length->W.cell? ⟨xb,ar+i,none⟩=some (.int .i32 (X.getD i 0))):=fun W _ hW i hi=>by
    rw[hW.cell (x0a (p i hi))];exact p i hi
   have u:=O (fun k hk=>x0R aq (i:=k) hk);have B:=O (fun a k hk=>Cn.y2x (l:=l) (a:=a) (x:=X) (k:=k) hk);have af:=O I;have ae:=O ag;have j:=O g;go_wp2;go_loopw[7,9,10,23] (fun a _ _ i wr=>∃(k:Nat) (z:Int),i=.int .i64 k/\a=.int .i64 z/\k<=X.length/\Hid (Cn.x2a l 0 X=Cn.x2a l z (X.drop k))/\Hid (Bw Q wr)) (fun _ _ _ i _=>X.length-(intOf i).toNat)
   case atStart=>exact⟨0,0,rfl,rfl,f6J,V0q,b0r⟩
   case round =>
    obtain⟨k,z,rfl,rfl,hk,L,Y⟩:=hrel;have J:=V Y;have F:Below (w.heap.size+1) (w.alloc (.cells #[.slice s cs.length Z,.slice P os.length D,.map (some mr)] 168)) wr:=(V ae).trans (J.mono (by have:=(V ae).size;simp at this;exact f6J));have G:Bw w wr:=bthen (V j) J;by_cases ai:k<X.length
    ·have a0:=V C wr F J k ai;obtain⟨y0,y1,y2⟩:=V HX wr F;have r:=O (V b wr (X.getD k 0) G (V u k ai));have A:=V B z k ai;rw[<- V L]at A;have v:=O A;generalize Cn.cls l (X.getD k 0)=n at *;generalize X.getD k 0=x at *;go_wp2_with fail;refine c0m r fun t aw=>?_;have d:Bw Q t:=bthen (V Y) aw;have E:Bw w t:=bthen (V j) d;by_cases m:n≠0/\n<z
     ·have U:IntB w R (.returned (.int .i64 75)) t:=by
       have e1:=V af;rw[V v,d0t m,Bool.true_or]at e1;rw[e1];exact⟨rfl,E⟩
      obtain⟨N,am⟩:=m;have hq:(n != 0)=true:=(by simp[N]);exact m2I
     ·have ab:Hid (Cn.x2a l 0 X=Cn.x2a l n (X.drop (k+1))):=by
       show _=_;rw[V v,d0f m,Bool.false_or]
      have T:=O d;by_cases am:n<z
      ·have N:n=0:=by
        rcases Int.decEq n 0 with h | h
        ·exact absurd ⟨h,am⟩ m
        ·exact h
       subst N;go_wp2
       go_roundw
       case rel=>exact⟨k+1,0,g2A,rfl,f6J,ab,T⟩
       case measure=>exact g7T
      ·clear C u B af ae j b HX v Y d E m;go_wp2
       go_roundw
       case rel=>exact⟨k+1,n,g2A,rfl,f6J,ab,T⟩
       case measure=>exact g7T
    ·obtain rfl:k=X.length:=by omega
     have U:IntB w R (.returned (.int .i64 0)) wr:=by
      have e1:=V af;rw[V L,List.drop_length]at e1;rw[e1];exact⟨rfl,G⟩
     exact m2I
 ·obtain rfl:=V S he;have U:IntB w R (.returned (.int .i64 R)) Q:=⟨rfl,g⟩;have hq:(R != 0)=true:=(by simp[he]);obtain⟨ao,M,rfl,_,_⟩:=o.sk.shape;exact m2I
