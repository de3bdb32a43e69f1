/- CcG7 Cq7 Cr7 Cs7 Cw7 CcH7 CcI7 CcJ7 CcK7 -/
import Derived.Test.YtbmckadcjdedcaaGreatDoorD5
import Derived.Defers
import Derived.Recover
import Derived.Shelf.SlSortCmp.WholeK
set_option maxHeartbeats 4000000
set_option maxRecDepth 8000
namespace Go.Proofs.YtbmckadcjdedcaaGreatDoor
open Go.Proofs.Tryz
open Go.RowKit
section
variable{p:Prop}
theorem R8h(h:p:=by
 unfold fam at h;split at h
 ·omega
 ·omega):p:=h
theorem r2C(h:p:=by
 unfold fam;split
 ·intro e;omega
 ·omega):p:=h
theorem r2m(h:p:=by simp[Act.eval,Array.replicate]):p:=h
theorem n4e(h:p:=by go_enter func130,ntmps130;go_wp2_with fail;refine c0m R fun Q H=>?_;subst Q;go_wp2_with fail;refine c0m i fun Q H=>?_;subst Q;go_wp2_with fail;refine c0m j fun Q H=>?_;subst Q;go_wp2;go_ret;exact⟨rfl,rfl⟩):p:=h
theorem v6g(h:p:=by push_cast;rw[Int.add_mul];exact f6J):p:=h
theorem s8h(h:p:=by rw[h];exact e8M):p:=h
theorem I3D(h:p:=by go_enter func173,ntmps173;exact t6u):p:=h
theorem g1k(h:p:=by
 constructor
 ·intro h;cases h
 ·rintro⟨k,_,Z,_⟩;have:=Int.mul_nonneg (f6J:(0:Int)<=k) X;omega):p:=h
theorem w8p(h:p:=by show 0<1;exact f6J):p:=h
theorem S7a(h:p:=by go_enter func172,ntmps172;go_wp2_with(go_at_call 228;refine(V K _ _).mono ?_;rintro e Q ⟨rfl,rfl⟩);go_ret;exact g9T):p:=h
theorem r0q(h:p:=by go_wp2;go_ret;exact⟨rfl,V B⟩):p:=h
theorem p3W(h:p:=by
 rcases Int.lt_or_le 0 j with D | D
 ·have:s*1<=s*j:=Int.mul_le_mul_of_nonneg_left f6J f6J;omega
 ·have:=Int.mul_nonpos_of_nonneg_of_nonpos (f6J:0<=s) D;omega):p:=h
theorem U0Z(h:p:=by go_enter func130,ntmps130;go_wp2_with fail;refine c0m R fun Q H=>?_;subst Q;go_wp2_with fail;refine c0m i fun Q H=>?_;subst Q;go_wp2;go_ret;exact⟨rfl,rfl⟩):p:=h
theorem R6d(h:p:=by simpa using K):p:=h
theorem R8n(h:p:=by rintro e Q ⟨rfl,rfl⟩;exact r0q):p:=h
theorem w8c(h:p:=by simp[List.getD,G]):p:=h
theorem f8H(h:p:=by
 refine⟨?_,?_,?_⟩
 all_goals
  rw[t.cell (by show w.heap.size<_;exact f6J)];simp):p:=h
end
theorem z8X(w:World):(Instr.typeAssert .nilIface 20 29 true).run prog w=.ok (.tuple #[.int .i64 0,.bool false]) w:=f4x
theorem ta_ok(n:Int)(w:World):(Instr.typeAssert (.iface 29 (.int .i64 n)) 20 29 true).run prog w=.ok (.tuple #[.int .i64 n,.bool true]) w:=f4x
theorem y4p(p q:Addr)(w:World):CallsD prog 229 #[.pointer (some p),.pointer (some q)] .returning w fun e J w'=>e=.returned (.tuple #[])/\J=.returning/\w'=w:=by
  refine callsD_of_wpS func229 rfl fun c₀ f W=>?_;apply wpS_seq;apply wpS_region;simp[wpOpsS,go_sem,recoverD,W,ntmps229,Exit.thenS,z8X];apply wpS_seq;apply wpS_region;simp[wpOpsS,go_sem,Exit.thenS];refine wpS_cond (t:=false) r2m ?_;simp only[Bool.false_eq_true,if_false];refine wpS_of_wp (wp_skip ?_);cases c₀;simp_all [bodyPostS,results,Tryz.results229]
theorem y4o(p q:Addr)(n:Int)(x y:Value)(B:List PanicEntry)(w:World)(A:w.cell? p=some x)(C:w.frozen? p=false)(L:(w.setCell p (.slice none 0 0)).cell? q=some y)(D:(w.setCell p (.slice none 0 0)).frozen? q=false) :
    CallsD prog 229 #[.pointer (some p),.pointer (some q)] (.panicking ({ v:=.iface 29 (.int .i64 n),recovered:=false }::B)) w fun e J w' =>
      e=.returned (.tuple #[])/\J=.panicking ({ v:=.iface 29 (.int .i64 n),recovered:=true }::B)/\w'=(w.setCell p (.slice none 0 0)).setCell q (.int .i64 n):=by
  refine callsD_of_wpS func229 rfl fun c₀ f W=>?_;apply wpS_seq;apply wpS_region;simp[wpOpsS,go_sem,recoverD,W,ntmps229,Exit.thenS,ta_ok];apply wpS_seq;apply wpS_region;simp[wpOpsS,go_sem,Exit.thenS];refine wpS_cond (t:=true) r2m ?_;simp only[if_true];apply wpS_region;simp[wpOpsS,go_sem,A,C,L,D,bodyPostS,results,Tryz.results229]
def fw(w:World)(fv:Value):World:=((w.alloc (.cells #[.slice none 0 0] 40)).alloc (.cells #[.int .i64 0] 29)).alloc (.cells #[fv,.slice none 0 0,.slice none 0 0] 303)
theorem z7E(w:World)(k:Value):(fw w k).heap[w.heap.size]?=some (.cells #[.slice none 0 0] 40 (0,0))/\(fw w k).heap[w.heap.size+1]?=some (.cells #[.int .i64 0] 29 (0,0))/\(fw w k).heap[w.heap.size+2]?=some (.cells #[k,.slice none 0 0,.slice none 0 0] 303 (0,0))/\(fw w k).heap.size=w.heap.size+3:=by
  have e:(fw w k).heap=((w.heap.push (.cells #[.slice none 0 0] 40 (0,0))).push (.cells #[.int .i64 0] 29 (0,0))).push (.cells #[k,.slice none 0 0,.slice none 0 0] 303 (0,0)):=rfl;rw[e];refine⟨?_,?_,?_,M7K⟩
  · grind
  · grind
  · rw[Array.getElem?_push];simp
theorem z7F(w:World)(k:Value):Wk w.heap.size (fw w k) (w.heap.size+2) k [] [] (.slice none 0 0) (.slice none 0 0) :=
  ⟨(z7E w k).2.2.1,f6J,Ok.nil _ _ _ _,Ok.nil _ _ _ _,fun g h=>by simp[Value.ownBlock]at h⟩
theorem y3l(w:World)(k:Value):Bw w (fw w k):=(((b0r).alloc (l0r _) _).alloc M7N _).alloc P8P _
theorem y3k{w w1:World}{k v:Value}{out:List Int}{n:Int}(z:Frm (fw w k) w1 (w.heap.size+2) (.slice none 0 0) (.slice none 0 0))(N:Ok .i32 21 w1 w.heap.size v out) :
    w1.heap[w.heap.size]?=some (.cells #[.slice none 0 0] 40 (0,0))/\w1.heap[w.heap.size+1]?=some (.cells #[.int .i64 0] 29 (0,0)) /\
    (∀u,((w1.setCell ⟨w.heap.size,0,none⟩ u).setCell ⟨w.heap.size+1,0,none⟩ (.int .i64 n)).heap[w.heap.size]?=some (.cells #[u] 40 (0,0)) /\
     ((w1.setCell ⟨w.heap.size,0,none⟩ u).setCell ⟨w.heap.size+1,0,none⟩ (.int .i64 n)).heap[w.heap.size+1]?=some (.cells #[.int .i64 n] 29 (0,0)) /\
     (w1.setCell ⟨w.heap.size,0,none⟩ u).heap[w.heap.size+1]?=some (.cells #[.int .i64 0] 29 (0,0)) /\
     Bw w ((w1.setCell ⟨w.heap.size,0,none⟩ u).setCell ⟨w.heap.size+1,0,none⟩ (.int .i64 n)) /\
     Ok .i32 21 ((w1.setCell ⟨w.heap.size,0,none⟩ u).setCell ⟨w.heap.size+1,0,none⟩ (.int .i64 n)) w.heap.size v out):=by
  obtain⟨F,A,J,d⟩:=z7E w k;have a:w1.heap[w.heap.size]?=some (.cells #[.slice none 0 0] 40 (0,0)):=(by rw[z.keep _ f6J f6J V3H V3H];exact F);have M:w1.heap[w.heap.size+1]?=some (.cells #[.int .i64 0] 29 (0,0)):=(by rw[z.keep _ f6J f6J V3H V3H];exact A);refine⟨a,M,fun u=>?_⟩;have S:(w1.setCell ⟨w.heap.size,0,none⟩ u).heap[w.heap.size+1]?=some (.cells #[.int .i64 0] 29 (0,0)):=(by rw[x0g _ f6J];exact M);refine⟨?_,?_,S,?_,?_⟩
  · rw[x0g _ f6J,x0f a];rfl
  · rw[x0f S];rfl
  · have C:Bw w w1:=(y3l w k).trans (z.below (z7F w k) f6J)
    exact x0d (x0d C (l0r _) u) f6J _
  · refine N.keep fun g D=>?_
    obtain⟨P,I⟩:=y8S N D;have X:g≠w.heap.size:=fun e=>(by subst e;rw[a]at I;simp at I);have i:g≠w.heap.size+1:=fun e=>(by subst e;rw[M]at I;simp at I);rw[x0g _ i,x0g _ X]
theorem fullK(g:Nat)(fa Y:Array Value)(rs:List Rec)(w:World)(H:y1u g fa Y rs w)(y:∀args w,(callFunc g args).run prog w=.ok (.enter g args) w)(d:∀c,(Cn.opn rs c).length<=1000000000)(c:Int)(I:Rune c) :
    Calls prog 177 #[.func (.func g) fa Y,.int .i32 c] w (x7l w (Cn.full rs c)):=by
  have K:=O (z1g g fa Y rs w H y d 16 [] c [] (fw w (.func (.func g) fa Y)) (w.heap.size+2) _ _ M7L M7L I (y3l w _) (z7F w _));have v:∀(Z:Fn) (first M:Array Value) (w:World),(Instr.makeFunc Z first M).run prog w=.ok (.func Z first M) w:=fun _ _ _ _=>rfl;have X:=Cn.x4f rs c;have E:=Cn.y3S rs 16 [] c [];change Hid (Calls _ _ _ _ (x5t _ _ _ _ _ _ _ (Cn.full rs c)))at K;change (Cn.full rs c).2≠0->(Cn.full rs c).1=[]at E;generalize Cn.full rs c=r at *;have x:Hid (r.2≠0->r.1=[]):=E;go_enter_defers func177,ntmps177;go_wp2_with fail;refine(V K).mono ?_;rintro N Q ⟨z,⟨F,W⟩ | ⟨h0,rfl,D,k,l,C,L⟩⟩
  · unfold Gave at W
    subst W;obtain⟨a,k1,kk⟩:=y3k (n:=r.2) z (Ok.nil _ _ _ _);obtain⟨m0,S,B,u,G⟩:=kk (.slice none 0 0);have T:x7l w r (.returned (.tuple #[.slice none 0 0,.int .i64 r.2])) ((Q.setCell ⟨w.heap.size,0,none⟩ (.slice none 0 0)).setCell ⟨w.heap.size+1,0,none⟩ (.int .i64 r.2)):=⟨_,rfl,by rw[V x F];exact G,u⟩;have R:=cell_of (j:=0) m0 w8p;have U:=cell_of (j:=0) S w8p;refine leaves_cons (f:=229) (args:=#[.pointer (some ⟨w.heap.size,0,none⟩),.pointer (some ⟨w.heap.size+1,0,none⟩)]) M7L (by simp[go_sem]) ?_;refine(y4o ⟨w.heap.size,0,none⟩ ⟨w.heap.size+1,0,none⟩ r.2 _ _ [] Q (cell_of (j:=0) a w8p) (x0e a) (cell_of (j:=0) B w8p) (x0e B)).mono ?_;rintro e J w2 ⟨rfl,rfl,rfl⟩;generalize(Q.setCell ⟨w.heap.size,0,none⟩ (.slice none 0 0)).setCell ⟨w.heap.size+1,0,none⟩ (.int .i64 r.2)=q at *;have i:q.cell? ⟨w.heap.size,0,none⟩=some (.slice none 0 0):=R;have A:q.cell? ⟨w.heap.size+1,0,none⟩=some (.int .i64 r.2):=U;simp[Leaves,settle,results,Tryz.results177,go_sem,i,A];exact T
  · obtain⟨s,M,rfl,_,_⟩:=l.e.sk.shape
    obtain⟨a,k1,kk⟩:=y3k (n:=0) z l.e;obtain⟨m0,S,B,u,G⟩:=kk (.slice s r.1.length M);have T:x7l w r (.returned (.tuple #[.slice s r.1.length M,.int .i64 0])) ((Q.setCell ⟨w.heap.size,0,none⟩ (.slice s r.1.length M)).setCell ⟨w.heap.size+1,0,none⟩ (.int .i64 0)):=⟨_,by rw[h0],G,u⟩;have p:Q.cell? ⟨w.heap.size+1+1,2,none⟩=some (.slice s r.1.length M):=cell_of (j:=2) l.blk U4t;have y0:Q.cell? ⟨w.heap.size,0,none⟩=some (.slice none 0 0):=cell_of (j:=0) a w8p;have t:Q.cell? ⟨w.heap.size+1,0,none⟩=some (.int .i64 0):=cell_of (j:=0) k1 w8p;have b:=x0e (j:=0) a;have m:=x0e (j:=0) k1;have P:(Q.setCell ⟨w.heap.size,0,none⟩ (.slice s r.1.length M)).cell? ⟨w.heap.size+1,0,none⟩=some (.int .i64 0):=cell_of (j:=0) B w8p;have qf:=x0e (j:=0) B;have R:((Q.setCell ⟨w.heap.size,0,none⟩ (.slice s r.1.length M)).setCell ⟨w.heap.size+1,0,none⟩ (.int .i64 0)).cell? ⟨w.heap.size,0,none⟩=some (.slice s r.1.length M):=cell_of (j:=0) m0 w8p;have U:((Q.setCell ⟨w.heap.size,0,none⟩ (.slice s r.1.length M)).setCell ⟨w.heap.size+1,0,none⟩ (.int .i64 0)).cell? ⟨w.heap.size+1,0,none⟩=some (.int .i64 0):=cell_of (j:=0) S w8p;have o:=O R;have Z1:=O U;go_wp2;refine leaves_cons (f:=229) (args:=#[.pointer (some ⟨w.heap.size,0,none⟩),.pointer (some ⟨w.heap.size+1,0,none⟩)]) M7L (by simp[go_sem]) ?_;refine(y4p ⟨w.heap.size,0,none⟩ ⟨w.heap.size+1,0,none⟩ _).mono ?_;rintro e J w2 ⟨rfl,rfl,rfl⟩;have R:=V o;have U:=V Z1;simp[Leaves,settle,results,Tryz.results177,go_sem,R,U];exact T
end Go.Proofs.YtbmckadcjdedcaaGreatDoor
namespace Go.Proofs.YtbmckadcjdedcaaGreatDoor.Cn
open Go.Proofs.Tryz
def x8S(lo hi s x:Int):Prop:=lo<=x/\x<=hi/\s∣x-lo
theorem y3M{lo1 hi1 s1 lo2 hi2 s2 c0:Int}{N:Nat}(D:0<s1)(Z:0<s2)(y:s2<=N)(L:lo1<=c0)(C:lo2<=c0)(hd:s1∣c0-lo1)(P:∀x,lo1<=x->lo2<=x->s1∣x-lo1->c0<=x) :
  (∃x,x8S lo1 hi1 s1 x/\x8S lo2 hi2 s2 x)↔∃k:Nat,k<N/\c0+k*s1<=hi1/\c0+k*s1<=hi2/\s2∣c0+k*s1-lo2:=by
 constructor
 ·rintro⟨x,⟨A,J,d⟩,b1,m,G⟩;have B:=P x A b1 d
  obtain⟨j,K⟩:s1∣x-c0:=by
   have:=Int.dvd_sub d hd;rwa [(f6J:x-lo1-(c0-lo1)=x-c0)]at this
  have F:0<=j:=by
   rcases Int.lt_or_le j 0 with h | h
   ·have:=Int.mul_neg_of_pos_of_neg D h;omega
   ·exact h
  have I:=Int.emod_nonneg j (f6J:s2≠0);have Y:=Int.emod_lt_of_pos j Z
  have E:j%s2<=j:=by
   have:=Int.emod_add_mul_ediv j s2;have:=Int.mul_nonneg (f6J:0<=s2) (Int.ediv_nonneg F (f6J:0<=s2));omega
  have H:j%s2*s1<=x-c0:=by
   rw[K,Int.mul_comm s1 j];exact Int.mul_le_mul_of_nonneg_right E f6J
  refine⟨(j%s2).toNat,f6J,?_,?_,?_⟩
  ·rw[Int.toNat_of_nonneg I];omega
  ·rw[Int.toNat_of_nonneg I];omega
  ·rw[Int.toNat_of_nonneg I];have e:c0+j%s2*s1-lo2=(x-lo2)-(j-j%s2)*s1:=(by grind);rw[e];refine Int.dvd_sub G (Int.dvd_mul_of_dvd_left ?_);exact Int.dvd_self_sub_emod
 ·rintro⟨k,_,M,r,q⟩;have Q:0<=(k:Int)*s1:=Int.mul_nonneg f6J f6J;refine⟨c0+k*s1,⟨f6J,M,?_⟩,f6J,r,q⟩;rw[(f6J:c0+(k:Int)*s1-lo1=(c0-lo1)+k*s1)];exact Int.dvd_add hd (Int.dvd_mul_left _ _)
theorem x0G{r:Rec}(h:right r=0)(G:r.kind≠15)(c:Int):speaks r c=true↔x8S r.lo r.hi (step r) c:=by
 have X:=right_step h;have A:=x0o h G;unfold speaks x8S;rw[decide_eq_true_iff];constructor
 ·omega
 ·omega
theorem x7M(b:Rec){s hi:Int}(X:0<=s):∀(n:Nat) (c:Int),clashA b s hi n c=true↔∃k:Nat,k<n/\c+k*s<=hi/\speaks b (c+k*s)=true
 | 0,c=>by simp[clashA]
 | n+1,c=>by
  rw[clashA];split
  ·next hc =>
   rw[Bool.or_eq_true,x7M b X n];constructor
   ·rintro(h | ⟨k,D,Z,R⟩)
    ·exact⟨0,f6J,by simpa using hc,by simpa using h⟩
    ·refine⟨k+1,f6J,?_,?_⟩
     ·rw[(v6g:c+((k+1:Nat):Int)*s=c+s+k*s)];exact Z
     ·rw[(v6g:c+((k+1:Nat):Int)*s=c+s+k*s)];exact R
   ·rintro⟨k,D,Z,R⟩
    cases k with
    | zero=>left;exact s4Q
    | succ k =>
     right;rw[(v6g:c+((k+1:Nat):Int)*s=c+s+k*s)]at Z R;exact⟨k,f6J,Z,R⟩
  ·next hc =>
   exact g1k
theorem y7G{lo1 lo2 s:Int}(h:0<s){c0:Int}(I:c0=if lo1<lo2 then lo1+(lo2-lo1+s-1) / s*s else lo1) :
  lo1<=c0/\lo2<=c0/\s∣c0-lo1/\∀x,lo1<=x->lo2<=x->s∣x-lo1->c0<=x:=by
 by_cases S:lo1<lo2
 ·rw[if_pos S]at I;have e:=Int.emod_add_mul_ediv (lo2-lo1+s-1) s;have H:=Int.emod_nonneg (lo2-lo1+s-1) (f6J:s≠0);have N:=Int.emod_lt_of_pos (lo2-lo1+s-1) h;rw[Int.mul_comm]at e;have L:s∣(lo2-lo1+s-1) / s*s:=Int.dvd_mul_left _ _;generalize(lo2-lo1+s-1) / s*s=q at *;subst I;refine⟨f6J,f6J,by rw[(f6J:lo1+q-lo1=q)];exact L,fun x a b d=>?_⟩;obtain⟨j,K⟩:=Int.dvd_sub L d;exact p3W
 ·simp_all
theorem x1S{a b:Rec}(L:right a=0)(C:right b=0)(z:fam a.kind=fam b.kind)(G:a.kind≠15)(A:b.kind≠15):clash a b=true↔∃c,speaks a c=true/\speaks b c=true:=by
 have B:=right_step L;have o:=right_step C;unfold clash;rw[if_neg p1I,if_neg G,x7M b f6J];obtain⟨m,S,u,U⟩:=y7G (lo1:=a.lo) (lo2:=max a.lo b.lo) (f6J:0<step a) rfl;generalize(if a.lo<max a.lo b.lo then a.lo+(max a.lo b.lo-a.lo+step a-1) / step a*step a else a.lo)=c0 at *;have:=y3M (hi1:=a.hi) (hi2:=b.hi) (N:=64) (lo1:=a.lo) (lo2:=b.lo) (s1:=step a) (s2:=step b) (c0:=c0) f6J f6J f6J m f6J u (fun x p q d=>U x p f6J d);constructor
 ·rintro⟨k,D,Z,R⟩;rw[x0G C A]at R;obtain⟨x,J,E⟩:=this.2 ⟨k,D,f6J,f6J,R.2.2⟩;exact⟨x,(x0G L G x).2 J,(x0G C A x).2 E⟩
 ·rintro⟨x,J,E⟩;obtain⟨k,D,Z,R,H⟩:=this.1 ⟨x,(x0G L G x).1 J,(x0G C A x).1 E⟩;refine⟨k,D,f6J,(x0G C A _).2 ⟨?_,R,H⟩⟩;have:=Int.mul_nonneg (f6J:(0:Int)<=k) (f6J:0<=step a);omega
theorem x8J{k:Int}(h:fam k=10):k=15:=R8h
theorem y4v{a b:Rec}(L:right a=0)(C:right b=0):clash a b=clash b a:=by
 by_cases z:fam a.kind=fam b.kind
 ·by_cases G:a.kind=15
  ·have A:b.kind=15:=x8J (by rw[<- z,G];exact e8M);unfold clash;rw[if_neg p1I,if_pos G,if_neg p1I,if_pos A];refine decide_eq_decide.2 ⟨?_,?_⟩
   ·grind
   ·rintro(⟨D,Z⟩ | ⟨D,Z⟩)
    ·exact .inl ⟨D.symm,Z.symm⟩
    ·exact .inr ⟨Z.symm,D.symm⟩
  ·have A:b.kind≠15:=fun e=>G (x8J (by rw[z,e];exact e8M));have D:=x1S L C z G A;have Z:=x1S C L z.symm A G;rw[Bool.eq_iff_iff,D,Z];constructor<;>exact fun⟨c,p,q⟩=>⟨c,q,p⟩
 ·unfold clash;rw[if_pos z,if_pos (fun e=>z e.symm)]
end Go.Proofs.YtbmckadcjdedcaaGreatDoor.Cn
namespace Go.Proofs.YtbmckadcjdedcaaGreatDoor.Cn
open Go.Proofs.Tryz
theorem getD_at{l:List Rec}{k:Nat}(h:k<l.length):l.getD k none=l[k]:=p8I
theorem x7d{l:List Rec}:∀(n i:Nat),l.length-i=n->i<=l.length->(x1D l i (l.drop i)=Option.none↔∀j,i<=j->(K:j<l.length)->∀k,(G:k<j)->clash l[k] l[j]=false)
 | 0,i,hn,hi=>by
  rw[List.drop_eq_nil_of_le f6J,x1D];exact⟨fun _ j a b=>f6J,fun _=>rfl⟩
 | n+1,i,hn,hi=>by
  have S:i<l.length:=f6J;rw[List.drop_eq_getElem_cons S,x1D];have B:=x7d (l:=l) n (i+1) f6J S
  have D:((l.take i).any fun k=>clash k l[i])=true↔∃k,∃G:k<i,clash l[k] l[i]=true:=by
   rw[List.any_eq_true];constructor
   ·rintro⟨x,J,I⟩;obtain⟨k,G,rfl⟩:=List.mem_take_iff_getElem.1 J;exact⟨k,f6J,I⟩
   ·rintro⟨k,G,I⟩;exact⟨l[k],List.mem_take_iff_getElem.2 ⟨k,f6J,rfl⟩,I⟩
  split
  ·next h =>
   obtain⟨k,G,I⟩:=D.1 h;exact⟨fun h=>(nomatch h),fun h=>by rw[h i (l0r _) S k G]at I;cases I⟩
  ·next h =>
   rw[B];constructor
   ·intro Z j hij K k G;rcases Nat.eq_or_lt_of_le hij with rfl | hij
    ·exact Bool.eq_false_iff.2 fun I=>h (D.2 ⟨k,G,I⟩)
    ·exact Z j hij K k G
   ·exact fun Z j hij K k G=>Z j f6J K k G
theorem x6T:∀(l:List Rec) (i:Nat),x1f i l=Option.none↔∀r∈l,right r=0
 | [],_=>⟨fun _ r hr=>absurd hr M7K,fun _=>rfl⟩
 | x::l,i=>by
  rw[x1f,List.forall_mem_cons];split
  ·next h=>rw[x6T l];exact⟨fun a=>⟨h,a⟩,fun a=>a.2⟩
  ·next h=>exact⟨fun a=>(nomatch a),fun a=>absurd a.1 h⟩
theorem x0m{l:List Rec}:(check6 l).2=0↔l.length<=4096/\(∀r∈l,right r=0)/\l.Pairwise fun a b=>clash a b=false:=by
 have K:=x7d (l:=l) l.length 0 f6J f6J;rw[List.drop_zero]at K;have u:=x6T l 0;rw[List.pairwise_iff_getElem];unfold check6;split
 ·omega
 ·next h =>
  split
  ·next x hx =>
   refine⟨fun a=>absurd a (x2l _ _ _ hx),fun a=>?_⟩;rw[u.2 a.2.1]at hx;cases hx
  ·grind
theorem y0g(f c:Int):∀(l:List Rec) (i:Nat),0<=findA f c i l->∃k,∃G:k<l.length,findA f c i l=(i+k:Nat)/\fam l[k].kind=f/\speaks l[k] c=true
 | [],i,h=>by rw[findA]at h;exact f6J
 | r::l,i,h=>by
  rw[findA]at h ⊢;split
  ·next hr=>exact⟨0,M7N,M7N,hr.1,hr.2⟩
  ·next hr =>
   rw[if_neg hr]at h;obtain⟨k,G,D,Z,R⟩:=y0g f c l (i+1) h;exact⟨k+1,P8P,by rw[D];congr 1;exact f6J,Z,R⟩
theorem x4I(f c:Int):∀(l:List Rec) (i:Nat),(∃r∈l,fam r.kind=f/\speaks r c=true)->0<=findA f c i l
 | [],i,⟨r,hr,_⟩=>by cases hr
 | x::l,i,⟨r,hr,h1,h2⟩=>by
  rw[findA];split
  ·omega
  ·next hx =>
   rcases List.mem_cons.1 hr with rfl | hr
   ·exact absurd ⟨h1,h2⟩ hx
   ·exact x4I f c l (i+1) ⟨r,hr,h1,h2⟩
theorem x2u{l:List Rec}{f c:Int}{r:Rec}(h:hit l f c=some r):r∈l/\fam r.kind=f/\speaks r c=true:=by
 unfold hit at h;split at h
 ·cases h
 ·next hf =>
  cases h;unfold find at hf ⊢;split at hf
  ·omega
  ·next hg =>
   rw[if_neg hg];obtain⟨k,G,D,Z,R⟩:=y0g f c l 0 f6J;rw[D,(f6J:((0+k:Nat):Int).toNat=k),getD_at G];exact⟨List.getElem_mem G,Z,R⟩
theorem once{l:List Rec}(h:(check6 l).2=0){f c:Int}{a b:Rec}(L:a∈l)(C:b∈l)(R:fam a.kind=f)(fb:fam b.kind=f)(P:speaks a c=true)(M:speaks b c=true):a=b:=by
 obtain⟨_,u,A⟩:=x0m.1 h;rw[List.pairwise_iff_getElem]at A
 have G:∀{x:Rec},speaks x c=true->x.kind≠15:=fun J=>by
  unfold speaks at J;exact(o0d J).1
 obtain⟨i,hi,rfl⟩:=List.getElem_of_mem L;obtain⟨j,K,rfl⟩:=List.getElem_of_mem C;rcases Nat.lt_trichotomy i j with D | rfl | D
 ·have:=A i j hi K D;rw[Bool.eq_false_iff]at this;exact absurd ((x1S (u _ L) (u _ C) (R.trans fb.symm) (G P) (G M)).2 ⟨c,P,M⟩) this
 ·rfl
 ·have:=A j i K hi D;rw[Bool.eq_false_iff]at this;exact absurd ((x1S (u _ C) (u _ L) (fb.trans R.symm) (G M) (G P)).2 ⟨c,M,P⟩) this
theorem x1T{l:List Rec}(h:(check6 l).2=0){f c:Int}(z:f≠10/\f≠0)(r:Rec):hit l f c=some r↔r∈l/\fam r.kind=f/\speaks r c=true:=by
 refine⟨x2u,fun⟨h1,h2,h3⟩=>?_⟩;have X:=x4I f c l 0 ⟨r,h1,h2,h3⟩
 have q:hit l f c=some (l.getD (find l f c).toNat none):=by
  unfold hit;rw[if_neg];unfold find;rw[if_neg f6J];omega
 obtain⟨i,U,M⟩:=x2u q;rw[q,once h i h1 U h2 M h3]
theorem y3q{l:List Rec}{f c:Int}(z:f≠10/\f≠0)(h:hit l f c=Option.none):∀r∈l,fam r.kind=f->speaks r c=false:=by
 intro r u Z;refine Bool.eq_false_iff.2 fun R=>?_;have X:=x4I f c l 0 ⟨r,u,Z,R⟩;unfold hit at h;rw[if_neg]at h
 ·cases h
 ·unfold find;rw[if_neg f6J];omega
end Go.Proofs.YtbmckadcjdedcaaGreatDoor.Cn
namespace Go.Proofs.YtbmckadcjdedcaaGreatDoor.Cn
open Go.Proofs.Tryz
def y0Y(a b:Rec):Prop:=a.kind=7/\b.kind=7/\a.to.getD 0 0=b.to.getD 0 0/\a.to.getD 1 0=b.to.getD 1 0
theorem z2k{l:List Rec}{i:Nat}{r:Rec}(x:r.kind=7):pair l i r=true↔pair l 0 r=true/\∀k∈l.take i,¬y0Y k r:=by
 unfold pair;rw[Bool.and_eq_true,Bool.and_eq_true];have T:(!((l.take 0).any fun k=>decide (k.kind=7/\k.to.getD 0 0=r.to.getD 0 0/\k.to.getD 1 0=r.to.getD 1 0)))=true:=M7K
 have hi:(!((l.take i).any fun k=>decide (k.kind=7/\k.to.getD 0 0=r.to.getD 0 0/\k.to.getD 1 0=r.to.getD 1 0)))=true↔∀k∈l.take i,¬y0Y k r:=by
  rw[Bool.not_eq_true',Bool.eq_false_iff,Ne,List.any_eq_true];constructor
  ·exact fun h k G ⟨a,_,b,c⟩=>h ⟨k,G,d0t ⟨a,b,c⟩⟩
  ·rintro h ⟨k,G,hd⟩;obtain⟨a,b,c⟩:=o0d hd;exact h k G ⟨a,x,b,c⟩
 rw[hi];exact⟨fun⟨a,b⟩=>⟨⟨a,T⟩,b⟩,fun⟨⟨a,_⟩,b⟩=>⟨a,b⟩⟩
def recF(l:List Rec)(r:Rec)(b:Bool):Int :=
 if fam r.kind≠2/\fam r.kind≠3 then 0
 else if covers r 0 127 then 70
 else if covers r 4352 4370||covers r 4449 4469||covers r 4520 4546||covers r 44032 55203 then 71
 else if r.kind=7/\((jl (r.to.getD 0 0)&&jv (r.to.getD 1 0))||(syl (r.to.getD 0 0)&&decide ((r.to.getD 0 0-44032)%28=0)&&jt (r.to.getD 1 0)))=true then 71
 else if fam r.kind=2 then 0
 else if(full l r.lo).2≠0 then(full l r.lo).2
 else if fallsA l (full l r.lo).1 then 75
 else if b=true then 74
 else 0
theorem x9v(l:List Rec)(i:Nat)(r:Rec):record l i r=recF l r (decide (r.kind=7/\pair l i r=false)):=by
 unfold record recF;simp only[decide_eq_true_eq]
theorem recF_two{l:List Rec}{r:Rec}(z:fam r.kind=3):(recF l r true=recF l r false/\recF l r false≠0)\/(recF l r true=74/\recF l r false=0):=by
 unfold recF;have D:¬(fam r.kind≠2/\fam r.kind≠3):=fun h=>h.2 z;have Z:¬fam r.kind=2:=f6J;simp only[if_neg D,if_neg Z,if_true];by_cases o:covers r 0 127=true
 ·simp[o]
 ·grind
theorem x4T{l:List Rec}{i:Nat}{r:Rec}:record l i r=0↔record l 0 r=0/\∀k∈l.take i,¬y0Y k r:=by
 rw[x9v,x9v];by_cases x:r.kind=7
 ·have A:=z2k (l:=l) (i:=i) x;have z:fam r.kind=3:=(by rw[x];exact e8M);have e:∀i,decide (r.kind=7/\pair l i r=false)=!(pair l i r):=fun i=>(by cases pair l i r<;>simp[x]);rw[e,e];rcases recF_two (l:=l) z with⟨D,Z⟩ | ⟨D,Z⟩
  ·grind
  ·grind
 ·have e:∀i,decide (r.kind=7/\pair l i r=false)=false:=fun i=>v5I;rw[e,e];exact⟨fun a=>⟨a,fun k _ s=>x s.2.1⟩,fun a=>a.1⟩
theorem x5p{l:List Rec}:∀(m:List Rec) (i:Nat),x0U l i m=Option.none↔∀j,(K:j<m.length)->record l (i+j) m[j]=0
 | [],i=>⟨fun _ j K=>absurd K M7L,fun _=>rfl⟩
 | r::m,i=>by
  rw[x0U];split
  ·next h =>
   rw[x5p m];constructor
   ·intro Z j K
    cases j with
    | zero=>exact h
    | succ j =>
     have:=Z j R6d;rwa [(f6J:i+1+j=i+(j+1))]at this
   ·intro Z j K;have:=Z (j+1) R6d;rwa [(f6J:i+(j+1)=i+1+j)]at this
  ·next h=>exact⟨fun a=>(nomatch a),fun a=>absurd (a 0 M7L) h⟩
theorem x3O{l:List Rec}:∀(m:List Rec) (i:Nat) (x:Nat×Int),x0U l i m=some x->x.2≠0
 | [],_,_,h=>by rw[x0U]at h;exact m5j
 | y::m,i,x,h=>by
  rw[x0U]at h;split at h
  ·exact x3O m (i+1) x h
  ·next hx=>cases h;exact hx
theorem x1i{l:List Rec}:(check l).2=0↔(check6 l).2=0/\(∀r∈l,record l 0 r=0)/\(l.Pairwise fun a b=>¬y0Y a b)/\baseA l 78 45=true:=by
 have u:=x5p (l:=l) l 0
 have J:(∀j,(K:j<l.length)->record l (0+j) l[j]=0)↔(∀r∈l,record l 0 r=0)/\l.Pairwise fun a b=>¬y0Y a b:=by
  rw[List.pairwise_iff_getElem];constructor
  ·intro h;refine⟨fun r u=>?_,fun i j hi K p=>?_⟩
   ·obtain⟨j,K,rfl⟩:=List.getElem_of_mem u;exact(x4T.1 (h j K)).1
   ·exact(x4T.1 (h j K)).2 _ (List.mem_take_iff_getElem.2 ⟨i,f6J,rfl⟩)
  ·rintro⟨D,Z⟩ j K;refine x4T.2 ⟨D _ (List.getElem_mem K),fun k G=>?_⟩;obtain⟨i,hi,rfl⟩:=List.mem_take_iff_getElem.1 G;exact Z i j f6J K f6J
 unfold check;split
 ·omega
 ·next h =>
  split
  ·next x hx' =>
   refine⟨fun a=>absurd a (x3O _ _ _ hx'),fun a=>?_⟩;rw[u.2 (J.2 ⟨a.2.1,a.2.2.1⟩)]at hx';cases hx'
  ·grind
theorem z1b{a b:Rec}(L:right a=0)(C:right b=0)(h:clash a b=false):clash b a=false:=by rw[y4v C L];exact h
end Go.Proofs.YtbmckadcjdedcaaGreatDoor.Cn
namespace Go.Proofs.YtbmckadcjdedcaaGreatDoor.Cn
open Go.Proofs.Tryz
def x1x(f:Int)(s:List Rec):Prop:=(∀r∈s,right r=0/\fam r.kind=f)/\s.Pairwise fun a b=>a.hi<b.lo
def ahead(s:List Rec)(c:Int):Nat:=s.countP fun r=>decide (r.hi<c)
def near(s:List Rec)(c:Int):List Rec:=(s.drop (ahead s c)).take 1
theorem x4u{r:Rec}(h:fam r.kind=2\/fam r.kind=3):step r=1/\r.kind≠15/\r.kind≠4:=by
 have H:r.kind≠4:=by
  intro e;rw[e]at h;revert h;decide
 have p:r.kind≠15:=by
  intro e;rw[e]at h;revert h;decide
 exact⟨by unfold step;rw[if_neg H],p,H⟩
theorem x4Z{r:Rec}(h:right r=0)(z:fam r.kind=2\/fam r.kind=3)(c:Int):speaks r c=true↔r.lo<=c/\c<=r.hi:=by
 obtain⟨D,Z,_⟩:=x4u z;rw[x0G h Z,x8S,D];constructor
 ·rintro⟨a,b,_⟩;exact⟨a,b⟩
 ·omega
theorem y5q{f:Int}(z:f=2\/f=3){s:List Rec}(hr:∀r∈s,right r=0/\fam r.kind=f)(I:s.Pairwise fun a b=>clash a b=false)(X:s.Pairwise fun a b=>a.lo<=b.lo):x1x f s:=by
 refine⟨hr,?_⟩;have h:=List.pairwise_and_iff.2 ⟨I,X⟩;refine h.imp_of_mem fun{a b} ha hb ⟨h1,h2⟩=>?_;obtain⟨d,R⟩:=hr a ha;obtain⟨l,fb⟩:=hr b hb;have A:fam a.kind=2\/fam a.kind=3:=f6J;have B:fam b.kind=2\/fam b.kind=3:=f6J;obtain⟨_,C,_⟩:=x4u A;obtain⟨_,D,_⟩:=x4u B;obtain⟨_,M,_⟩:=x0o l D;refine Int.not_le.1 fun H=>?_;have:clash a b=true:=(x1S d l f6J C D).2 ⟨b.lo,(x4Z d A _).2 ⟨h2,H⟩,(x4Z l B _).2 ⟨Int.le_refl _,M⟩⟩;rw[h1]at this;cases this
theorem x9k{s:List Rec}{c:Int}{r:Rec}(h:r∈near s c):r∈s:=List.mem_of_mem_drop (List.mem_of_mem_take h)
theorem y8M{f:Int}(z:f=2\/f=3):∀{s:List Rec} (_:x1x f s) {c:Int} {r:Rec} (_:r∈s) (_:r.lo<=c) (_:c<=r.hi),r∈near s c
 | [],_,_,_,h,_,_=>m5j
 | a::s,ho,c,r,h,h1,h2=>by
  obtain⟨hr,A⟩:=ho;rw[List.pairwise_cons]at A;by_cases L:a.hi<c
  ·have F:r≠a:=by rintro rfl;omega
   have U:r∈s:=by
    rcases List.mem_cons.1 h with e | e
    ·exact absurd e F
    ·exact e
   have B:=y8M z (s:=s) ⟨fun x hx=>hr x (List.mem_cons_of_mem _ hx),A.2⟩ U h1 h2
   have e:ahead (a::s) c=ahead s c+1:=by
    unfold ahead;rw[List.countP_cons_of_pos (by simpa using L)]
   unfold near;rw[e,List.drop_succ_cons];exact B
  ·have o:ahead (a::s) c=0:=by
    unfold ahead;rw[List.countP_eq_zero];intro x hx;rcases List.mem_cons.1 hx with rfl | C
    ·simpa using L
    ·have R:=A.1 x C;obtain⟨E,fx⟩:=hr x hx;obtain⟨_,D,_⟩:=x4u (r:=x) f6J;have:=x0o E D;exact f4S
   have e:r=a:=by
    rcases List.mem_cons.1 h with e | e
    ·exact e
    ·have:=A.1 r e;omega
   subst e;unfold near;rw[o];simp
theorem y5j{f:Int}{s:List Rec}(y:x1x f s)(c:Int):(check6 (near s c)).2=0:=by
 refine x0m.2 ⟨?_,fun r u=>(y.1 r (x9k u)).1,?_⟩
 ·unfold near;rw[List.length_take];omega
 ·have:(near s c).length<=1:=by unfold near;rw[List.length_take];omega
  match near s c,this with
  | [],_=>exact .nil
  | [_],_=>simp
  | _::_::_,h=>simp at h
theorem x9j{f:Int}(z:f=2\/f=3){l s:List Rec}(S:(check6 l).2=0)(y:x1x f s)(U:∀r,r∈s↔r∈l/\fam r.kind=f)(c:Int):hit (near s c) f c=hit l f c:=by
 have H:f≠10/\f≠0:=f6J;apply Option.ext;intro r;rw[x1T (y5j y c) H,x1T S H];constructor
 ·rintro⟨D,Z,R⟩;exact⟨((U r).1 (x9k D)).1,Z,R⟩
 ·rintro⟨D,Z,R⟩;have X:=(U r).2 ⟨D,Z⟩;have u:=y.1 r X;have:=(x4Z u.1 f6J c).1 R;exact⟨y8M z y X this.1 this.2,Z,R⟩
theorem z2a{l s:List Rec}(S:(check6 l).2=0)(y:x1x 2 s)(U:∀r,r∈s↔r∈l/\fam r.kind=2)(c:Int):cls (near s c) c=cls l c:=by
 unfold cls;rw[x9j (.inl rfl) S y U]
theorem x9l{l s:List Rec}(S:(check6 l).2=0)(y:x1x 3 s)(U:∀r,r∈s↔r∈l/\fam r.kind=3)(c:Int):opn (near s c) c=opn l c:=by
 unfold opn;rw[x9j (.inr rfl) S y U]
theorem y8N{l s:List Rec}(S:(check6 l).2=0)(y:x1x 3 s)(U:∀r,r∈s↔r∈l/\fam r.kind=3)(c:Int):prim (near s c) c=prim l c:=by
 unfold prim;rw[x9l S y U,x9j (.inr rfl) S y U]
end Go.Proofs.YtbmckadcjdedcaaGreatDoor.Cn
namespace Go.Proofs.YtbmckadcjdedcaaGreatDoor
open Go.Proofs.Tryz
open Go.RowKit
theorem y4W(x:Int)(w:World):Calls prog 228 #[.int .i64 x] w fun e w'=>e=.returned (.bool false)/\w'=w:=by
 have J:(x != x)=false:=M7L;go_enter func228,ntmps228;exact t6u
theorem x2U(x y:Int)(w:World):Calls prog 172 #[.int .i64 x,.int .i64 y] w fun e w'=>e=.returned (.int .i64 (Lib.compareInt x y))/\w'=w:=by
 have K:=O y4W;have T:∀r,r=Lib.compareInt x y->(Ending.returned (.int .i64 r)=.returned (.int .i64 (Lib.compareInt x y))/\w=w):=fun r h=>(by subst h;exact g9T);have A:x<y->Lib.compareInt x y=-1:=fun h=>(by unfold Lib.compareInt;rw[if_pos h]);have B:y<x->Lib.compareInt x y=1:=fun h=>(by unfold Lib.compareInt;rw[if_neg f6J,if_pos f6J]);have L:¬x<y->¬y<x->Lib.compareInt x y=0:=fun D Z=>(by unfold Lib.compareInt;rw[if_neg D,if_neg f6J]);by_cases D:x<y
 ·rw[A D];exact S7a
 ·by_cases Z:y<x
  ·rw[B Z];exact S7a
  ·rw[L D Z];exact S7a
theorem y2j(r:Rec)(vt:Value)(c:Int)(w:World):Calls prog 268 #[recV r vt,.int .i64 c] w fun e w'=>e=.returned (.int .i64 (Lib.compareInt r.hi c))/\Bw w w':=by
 have K:=O (fun W=>x2U r.hi c W);unfold recV;have B:∀o,Bw w (w.alloc o):=fun o=>(b0r).alloc (l0r _) _;have I:=O B;go_enter func268,ntmps268;go_wp2_with fail;refine(V K _).mono ?_;rintro e Q ⟨rfl,rfl⟩;go_wp2;go_ret;exact⟨rfl,V I _⟩
def Bdry(s:List Rec)(c:Int)(lo hi:Nat):Prop:=(∀t,t<lo->(s.getD t Cn.none).hi<c)/\(∀t,hi<=t->t<s.length->¬(s.getD t Cn.none).hi<c)
def y1v(w:World)(s:List Rec)(c:Int)(e:Ending)(w':World):Prop:=∃(k:Nat) (b:Bool),e=.returned (.tuple #[.int .i64 k,.bool b])/\Below w.heap.size w w'/\k<=s.length/\Bdry s c k k
theorem y5L(v:Value)(s:List Rec)(c:Int)(w:World)(hv:Rcs w v s)(k:∀a b,a<=b->b<s.length->(s.getD b Cn.none).hi<c->(s.getD a Cn.none).hi<c) :
  Calls prog 267 #[v,.int .i64 c,.func (.func 268) #[] #[]] w (y1v w s c):=by
 have y:∀D w,(callFunc 268 D).run prog w=.ok (.enter 268 D) w:=enters_of func268 f4y rfl;have KN:=O (fun r vt W=>y2j r vt c W);have HM:=O k;have d:=hv.1;rcases Nat.eq_zero_or_pos s.length with n0 | n0
 ·obtain⟨ao,af,rfl,_,_⟩:=hv.shape;have C:y1v w s c (.returned (.tuple #[.int .i64 0,.bool false])) w:=⟨0,false,rfl,b0r,f6J,fun t K=>f6J,fun t _ K=>f6J⟩;rw[n0];go_enter func267,ntmps267;go_wp2;refine wp_loop_rounds 1 ?_;rw[rounds_succ];go_wp2;go_ret2;exact C
 ·obtain⟨b,P,af,rfl,q,ag,G⟩:=hv.place n0;have Y:Hid (∀i,i<s.length->∀W,Bw w W->RecAt W b (P+i*8) (s.getD i Cn.none)):=fun i hi W hb=>(G i hi).below hb;go_enter func267,ntmps267;go_wp2;go_loopw[9,10,11] (fun i j _ wr=>∃lo hi:Nat,i=.int .i64 lo/\j=.int .i64 hi/\lo<=hi/\hi<=s.length/\Bw w wr/\Hid (Bdry s c lo hi)) (fun i j _ _=>(intOf j).toNat-(intOf i).toNat)
  case atStart=>exact⟨0,s.length,rfl,rfl,f6J,f6J,b0r,⟨fun t K=>f6J,fun t h1 h2=>f6J⟩⟩
  case round =>
   obtain⟨lo,hi,rfl,rfl,ai,X,A,I⟩:=hrel;by_cases H:lo<hi
   ·have T:(lo+hi) / 2<s.length:=f6J;have n:=V Y ((lo+hi) / 2) T wr A;obtain⟨x,u,p,R,⟨vt,F,U⟩,x5,g,x7⟩:=n;obtain⟨ab,L,rfl,_,_⟩:=U.shape;have Z:=O (V KN (s.getD ((lo+hi) / 2) Cn.none) (.slice ab (s.getD ((lo+hi) / 2) Cn.none).to.length L) wr);unfold recV at Z
    have S:Hid ((s.getD ((lo+hi) / 2) Cn.none).hi<c->Bdry s c ((lo+hi) / 2+1) hi):=fun h =>
     ⟨fun t K=>V HM t ((lo+hi) / 2) f6J T h,(V I).2⟩
    have f:Hid (¬(s.getD ((lo+hi) / 2) Cn.none).hi<c->Bdry s c lo ((lo+hi) / 2)):=fun h =>
     ⟨(V I).1,fun t K l h2=>h (V HM ((lo+hi) / 2) t K l h2)⟩
    have N:∀z,Lib.compareInt z c<0↔z<c:=fun z=>(by unfold Lib.compareInt;split<;>(try split)<;>omega);have m:=N (s.getD ((lo+hi) / 2) Cn.none).hi;generalize s.getD ((lo+hi) / 2) Cn.none=r at *;by_cases o:r.hi<c
    ·have ae:=m.2 o;have J:=O (V S o);generalize Lib.compareInt r.hi c=z at *;go_wp2_with fail;refine c0m Z fun Q E=>?_;have B:=x0b A E;go_wp2
     go_roundw
     case rel=>exact⟨(lo+hi) / 2+1,hi,g2A,rfl,f6J,f6J,B,J⟩
     case measure=>exact g7V
    ·have ae:¬Lib.compareInt r.hi c<0:=fun h=>o (m.1 h);have J:=O (V f o);generalize Lib.compareInt r.hi c=z at *;go_wp2_with fail;refine c0m Z fun Q E=>?_;have B:=x0b A E;go_wp2
     go_roundw
     case rel=>exact⟨lo,(lo+hi) / 2,rfl,g2A,f6J,f6J,B,J⟩
     case measure=>exact g7V
   ·obtain rfl:hi=lo:=f6J;have M:Hid (∀(b:Bool) W,Bw w W->y1v w s c (.returned (.tuple #[.int .i64 (hi:Int),.bool b])) W):=fun b W h=>⟨hi,b,rfl,h,X,V I⟩;by_cases hn:hi<s.length
    ·have n:=V Y hi hn wr A;obtain⟨x,u,p,R,⟨vt,F,U⟩,x5,g,x7⟩:=n;obtain⟨ab,L,rfl,_,_⟩:=U.shape;have Z:=O (V KN (s.getD hi Cn.none) (.slice ab (s.getD hi Cn.none).to.length L) wr);unfold recV at Z;generalize s.getD hi Cn.none=r at x u p R F x5 g x7 Z;generalize Lib.compareInt r.hi c=z at *;go_wp2_with fail;refine c0m Z fun Q E=>?_;have B:=x0b A E;go_wp2;go_ret2;exact V M _ _ B
    ·clear Y KN HM I;go_wp2;go_ret2;exact V M _ _ A
theorem Rcs.sub{w:World}{ao:Option Addr}{len cap k:Nat}{s:List Rec}(h:Rcs w (.slice ao len cap) s)(S:s.length=len)(G:k<len):∃b off,ao=some ⟨b,off,none⟩/\Rcs w (.slice (some ⟨b,off+k*8,none⟩) 1 (cap-k)) ((s.drop k).take 1):=by
 obtain⟨D,Z,R⟩:=h;rcases R with⟨rfl,A,J,N,U⟩ | ⟨b,off,J,N,B,U,I⟩
 ·simp at S;omega
 ·simp only[Value.slice.injEq]at N;obtain⟨rfl,e,rfl⟩:=N;have Q:((s.drop k).take 1).length=1:=P8P;refine⟨b,off,rfl,f6J,fun r u=>Z r (List.mem_of_mem_drop (List.mem_of_mem_take u)),.inr ⟨b,off+k*8,cap-k,by rw[Q],f6J,f6J,fun i hi=>?_⟩⟩;obtain rfl:i=0:=f6J;have:=I k f6J;rw[show((s.drop k).take 1).getD 0 Cn.none=s.getD k Cn.none by simp[List.getD],Nat.zero_mul,Nat.add_zero];exact this
theorem y4i{s:List Rec}{c:Int}:∀{k:Nat},k<=s.length->Bdry s c k k->Cn.ahead s c=k:=by
 induction s with
 | nil=>intro k G _;simp at G;subst G;rfl
 | cons a s ih =>
  intro k G ⟨D,Z⟩
  cases k with
  | zero =>
   unfold Cn.ahead;rw[List.countP_eq_zero];intro x J;obtain⟨t,K,rfl⟩:=List.getElem_of_mem J;have:=Z t (Nat.zero_le _) K;rw[show(a::s).getD t Cn.none=(a::s)[t]from by rw[List.getD_eq_getElem?_getD,List.getElem?_eq_getElem K];rfl]at this;exact W2K
  | succ k =>
   have T:a.hi<c:=(by simpa using D 0 f6J);have:Cn.ahead s c=k:=ih (by simpa using G) ⟨fun t K=>by simpa using D (t+1) f6J,fun t K A=>by simpa using Z (t+1) f6J P8P⟩;unfold Cn.ahead at this ⊢;rw[List.countP_cons_of_pos t1o,this]
theorem y0I{f:Int}(z:f=2\/f=3){s:List Rec}(y:Cn.x1x f s)(c:Int):∀a b,a<=b->b<s.length->(s.getD b Cn.none).hi<c->(s.getD a Cn.none).hi<c:=by
 intro a b B C h;rcases Nat.lt_or_eq_of_le B with H | rfl
 ·have A:=List.pairwise_iff_getElem.1 y.2 a b f6J C H;have eb:s.getD b Cn.none=s[b]:=(by grind);have ea:s.getD a Cn.none=s[a]:=(by grind);rw[eb]at h;rw[ea];obtain⟨l,fb⟩:=y.1 s[b] (List.getElem_mem C);obtain⟨_,D,_⟩:=Cn.x4u (r:=s[b]) f6J;have:=Cn.x0o l D;omega
 ·exact h
def z3N(w0 w:World)(s:List Rec)(e:Ending)(w':World):Prop:=∃v,e=.returned v/\Rcs w0 v s/\Below w.heap.size w w'
theorem x9i(v:Value)(s:List Rec)(c f:Int)(z:f=2\/f=3)(U w:World)(N:Rcs U v s)(t:Bw U w)(y:Cn.x1x f s)(I:Rune c):Calls prog 232 #[v,.int .i32 c] w (z3N U w (Cn.near s c)):=by
 have K:=O (y5L v s c w (N.below t) (y0I z y c));have d:=N.1;obtain⟨S,M,rfl,q,J⟩:=N.shape;obtain⟨Y,o⟩:=I;have j:=O N;go_enter func232,ntmps232;go_wp2_with fail;refine(V K).mono ?_;rintro e Q ⟨k,b,rfl,E,G,C⟩;have L:=y4i G C;by_cases H:k<s.length
 ·obtain⟨l,P,rfl,D⟩:=(V j).sub rfl H;have T:z3N U w (Cn.near s c) (.returned (.slice (some ⟨l,P+k*8,none⟩) 1 (M-k))) Q:=⟨_,rfl,by unfold Cn.near;rw[L];exact D,E⟩;have g:min ((k:Int)+1) (s.length:Int)=(k:Int)+1:=f6J;have F:¬M-k=0:=f6J;exact U7H
 ·obtain rfl:k=s.length:=f6J;have T:∀A m,m<=9223372036854775807->z3N U w (Cn.near s c) (.returned (.slice A 0 m)) Q:=fun A m R=>⟨_,rfl,by unfold Cn.near;rw[L,List.drop_length];exact⟨M7L,fun _ h=>m5l,.inl ⟨rfl,A,_,rfl,R⟩⟩,E⟩;have g:min ((s.length:Int)+1) (s.length:Int)=(s.length:Int):=f6J;go_wp2
  all_goals
   go_ret;exact T _ _ f6J
structure Idx(l:List Rec)(w0:World)(cv ov:Value)(cs os:List Rec):Prop where
 rc:Rcs w0 cv cs
 ro:Rcs w0 ov os
 oc:Cn.x1x 2 cs
 oo:Cn.x1x 3 os
 mc:∀r,r∈cs↔r∈l/\Cn.fam r.kind=2
 mo:∀r,r∈os↔r∈l/\Cn.fam r.kind=3
 ok:(Cn.check6 l).2=0
theorem Idx.below{l:List Rec}{U w1:World}{cv ov:Value}{cs b:List Rec}(h:Idx l U cv ov cs b)(C:Bw U w1):Idx l w1 cv ov cs b:={ h with rc:=h.rc.below C,ro:=h.ro.below C }
def xV(cv ov mv:Value):Value:=.agg #[cv,ov,mv]
theorem x8s(l cs b:List Rec)(cv ov:Value)(v:Nat)(c:Int)(w:World)(Y:Glob w)(h:Idx l w cv ov cs b)(I:Rune c):Calls prog 179 #[xV cv ov (.map (some v)),.int .i32 c] w (IntB w (Cn.cls l c)):=by
 obtain⟨p,D,rfl,_,_⟩:=h.rc.shape;obtain⟨P,B,rfl,_,_⟩:=h.ro.shape;have C:Bw w (w.alloc (.cells #[.slice p cs.length D,.slice P b.length B,.map (some v)] 125)):=(b0r).alloc (l0r _) _;have K:=O (x9i _ cs c 2 (.inl rfl) w _ h.rc C h.oc I);have j:=O (fun W v' (C:Bw w W) (N:Rcs w v' (Cn.near cs c))=>z7b v' (Cn.near cs c) c W (Y.on C) (N.below C) I);rw[Cn.z2a h.ok h.oc h.mc]at j;generalize Cn.cls l c=z at *;unfold xV;go_enter func179,ntmps179;go_wp2_with fail;refine(V K).mono ?_;rintro e Q ⟨H,rfl,n,E⟩;have f:=O (V j Q H (x0b C E) n);have F:=x0b C E;obtain⟨L,J,rfl,_,_⟩:=n.shape;go_wp2_with fail;refine c0m f fun A U=>?_;have T:IntB w z (.returned (.int .i64 z)) A:=⟨rfl,x0b F U⟩;go_wp2;go_ret;exact T
theorem y1q(l cs b:List Rec)(cv ov:Value)(v:Nat)(c:Int)(U w:World)(Y:Glob U)(h:Idx l U cv ov cs b)(t:Bw U w)(I:Rune c):Calls prog 178 #[xV cv ov (.map (some v)),.int .i32 c] w (OpB U w (Cn.opn l c)):=by
 obtain⟨p,D,rfl,_,_⟩:=h.rc.shape;obtain⟨P,B,rfl,_,_⟩:=h.ro.shape;have C:Bw w (w.alloc (.cells #[.slice p cs.length D,.slice P b.length B,.map (some v)] 125)):=(b0r).alloc (l0r _) _;have K:=O (x9i _ b c 3 (.inr rfl) U _ h.ro (t.trans (C.mono t.size)) h.oo I);have j:=O (fun W v' (C:Bw w W) (N:Rcs U v' (Cn.near b c))=>x8d v' (Cn.near b c) c U W ((Y.on t).on C) N (t.trans (C.mono t.size)) I);rw[Cn.x9l h.ok h.oo h.mo]at j;generalize Cn.opn l c=z at *;unfold xV;go_enter func178,ntmps178;go_wp2_with fail;refine(V K).mono ?_;rintro e Q ⟨H,rfl,n,E⟩;have f:=O (V j Q H (x0b C E) n);have F:=x0b C E;obtain⟨L,J,rfl,_,_⟩:=n.shape;go_wp2_with fail;refine(V f).mono ?_;rintro e A ⟨R,rfl,G,S⟩;have T:OpB U w z (.returned R) A:=⟨R,rfl,G.imp id (fun h=>h.lower F.size),x0b F S⟩;exact U7G
theorem z0x(l cs b:List Rec)(cv ov:Value)(v:Nat)(c:Int)(w:World)(Y:Glob w)(h:Idx l w cv ov cs b)(I:Rune c):Calls prog 180 #[xV cv ov (.map (some v)),.int .i32 c] w (x0c w (Cn.prim l c).isSome):=by
 obtain⟨p,D,rfl,_,_⟩:=h.rc.shape;obtain⟨P,B,rfl,_,_⟩:=h.ro.shape;have C:Bw w (w.alloc (.cells #[.slice p cs.length D,.slice P b.length B,.map (some v)] 125)):=(b0r).alloc (l0r _) _;have K:=O (x9i _ b c 3 (.inr rfl) w _ h.ro C h.oo I);have j:=O (fun W v' (C:Bw w W) (N:Rcs w v' (Cn.near b c))=>primC v' (Cn.near b c) c W (Y.on C) (N.below C) I);rw[Cn.y8N h.ok h.oo h.mo]at j;generalize Cn.prim l c=z at *;unfold xV;go_enter func180,ntmps180;go_wp2_with fail;refine(V K).mono ?_;rintro e Q ⟨H,rfl,n,E⟩;have f:=O (V j Q H (x0b C E) n);have F:=x0b C E;obtain⟨L,J,rfl,_,_⟩:=n.shape;go_wp2_with fail;refine c0m f fun A U=>?_;have T:x0c w z.isSome (.returned (.bool z.isSome)) A:=⟨rfl,x0b F U⟩;go_wp2;go_ret;exact T
theorem z9m(l cs b:List Rec)(cv ov:Value)(v:Nat)(w:World)(Y:Glob w)(h:Idx l w cv ov cs b):y1u 178 #[xV cv ov (.map (some v))] #[] l w :=
 fun c W t I=>y1q l cs b cv ov v c w W Y h t I
theorem idx_len{l cs b:List Rec}{cv ov:Value}{w:World}(h:Idx l w cv ov cs b)(c:Int):(Cn.opn l c).length<=1000000000:=by
 rw[<- Cn.x9l h.ok h.oo h.mo];unfold Cn.opn;split
 ·split<;>simp
 ·cases hh:Cn.hit (Cn.near b c) 3 c with
  | none=>simp
  | some r =>
   obtain⟨D,_,_⟩:=Cn.x2u hh;exact(h.ro.2.1 r (Cn.x9k D)).len
theorem z0w(l cs b:List Rec)(cv ov:Value)(v:Nat)(c:Int)(w:World)(Y:Glob w)(h:Idx l w cv ov cs b)(I:Rune c):Calls prog 177 #[.func (.func 178) #[xV cv ov (.map (some v))] #[],.int .i32 c] w (x7l w (Cn.full l c)) :=
 fullK 178 _ _ l w (z9m l cs b cv ov v w Y h) (enters_of func178 f4x rfl) (idx_len h) c I
theorem hmeets_any(b:Nat)(r:Rec)(x y:Int)(w:World)(D:w.cell? ⟨b,1,none⟩=some (.int .i64 r.lo))(Z:w.cell? ⟨b,2,none⟩=some (.int .i64 r.hi)):Calls prog 173 #[.int .i64 x,.int .i64 y,.pointer (some ⟨b,0,none⟩)] w fun e w'=>e=.returned (.bool (Cn.covers r x y))/\w'=w:=by
 unfold Cn.covers;by_cases P:r.lo<=y
 ·by_cases l:x<=r.hi
  ·rw[d0t ⟨P,l⟩];exact I3D
  ·rw[d0f (fun h=>l h.2)];have L:decide (x<=r.hi)=false:=d0f l;exact I3D
 ·rw[d0f (fun h=>P h.1)];exact I3D
def touches(r:Rec):Bool:=Cn.covers r 4352 4370||Cn.covers r 4449 4469||Cn.covers r 4520 4546||Cn.covers r 44032 55203
theorem x3S(r:Rec)(ao:Option Addr)(len cap:Nat)(w:World):Calls prog 129 #[recV r (.slice ao len cap)] w (x0c w (touches r)):=by
 have C:Bw w (w.alloc (.cells #[.int .i64 r.kind,.int .i64 r.lo,.int .i64 r.hi,.int .i64 r.n,.slice ao len cap,.string r.name,.string r.other,.float .f64 r.wt] 67)):=(b0r).alloc (l0r _) _;have K:=O (fun x y=>hmeets_any w.heap.size r x y (w.alloc (.cells #[.int .i64 r.kind,.int .i64 r.lo,.int .i64 r.hi,.int .i64 r.n,.slice ao len cap,.string r.name,.string r.other,.float .f64 r.wt] 67)) M7L M7L);have E:∀D w,(callFunc 173 D).run prog w=.ok (.enter 173 D) w:=enters_of func173 f4x rfl;have v:∀(Z:Fn) (first cap:Array Value) (w:World),(Instr.makeFunc Z first cap).run prog w=.ok (.func Z first cap) w:=fun _ _ _ _=>rfl;have B:=O C;have i:=O (V K 4352 4370);have j:=O (V K 4449 4469);have S:=O (V K 4520 4546);have U:=O (V K 44032 55203);have H:touches r=(Cn.covers r 4352 4370||Cn.covers r 4449 4469||Cn.covers r 4520 4546||Cn.covers r 44032 55203):=rfl;rw[H];generalize Cn.covers r 4352 4370=c1,Cn.covers r 4449 4469=c2,Cn.covers r 4520 4546=c3,Cn.covers r 44032 55203=c4 at *;unfold recV;cases c1
 ·cases c2
  ·cases c3
   ·rw[(M7L:(false||false||false||c4)=c4)];go_enter func129,ntmps129;go_wp2_with fail;refine(V i).mono ?_;rintro e Q ⟨rfl,rfl⟩;go_wp2_with fail;refine(V j).mono ?_;rintro e Q ⟨rfl,rfl⟩;go_wp2_with fail;refine(V S).mono ?_;rintro e Q ⟨rfl,rfl⟩;go_wp2_with fail;refine(V U).mono ?_;exact R8n
   ·rw[(M7L:(false||false||true||c4)=true)];go_enter func129,ntmps129;go_wp2_with fail;refine(V i).mono ?_;rintro e Q ⟨rfl,rfl⟩;go_wp2_with fail;refine(V j).mono ?_;rintro e Q ⟨rfl,rfl⟩;go_wp2_with fail;refine(V S).mono ?_;exact R8n
  ·rw[(M7L:(false||true||c3||c4)=true)];go_enter func129,ntmps129;go_wp2_with fail;refine(V i).mono ?_;rintro e Q ⟨rfl,rfl⟩;go_wp2_with fail;refine(V j).mono ?_;exact R8n
 ·rw[(M7L:(true||c2||c3||c4)=true)];go_enter func129,ntmps129;go_wp2_with fail;refine(V i).mono ?_;exact R8n
def makes(a b:Int):Bool:=(Cn.jl a&&Cn.jv b)||(Cn.syl a&&decide ((a-44032)%28=0)&&Cn.jt b)
theorem y8B(a b:Int)(w:World):Calls prog 130 #[.int .i32 a,.int .i32 b] w fun e w'=>e=.returned (.bool (makes a b))/\w'=w:=by
 have R:=O (x6A a w);by_cases X:Cn.syl a=true
 ·have E:44032<=a/\a<=55203:=(by unfold Cn.syl at X;exact R1Y);rw[X]at R;have i:=O (y3R a w E);have j:=O (x3t b 4520 4546 w)
  have e:makes a b=(decide ((a-44032)%28=0)&&decide (4520<=b/\b<=4546)):=by
   unfold makes;rw[X,show Cn.jl a=false by unfold Cn.jl;exact d0f f6J];simp[Cn.jt]
  rw[e];generalize decide (4520<=b/\b<=4546)=z at *;by_cases T:(a-44032)%28=0
  ·rw[d0t T,Bool.true_and];rw[T]at i;exact n4e
  ·rw[d0f T,Bool.false_and];generalize(a-44032)%28=t at *;have K:(t==0)=false:=b0f T;exact U0Z
 ·have E:Cn.syl a=false:=R1Y;rw[E]at R;have i:=O (x3t a 4352 4370 w);have j:=O (x3t b 4449 4469 w)
  have e:makes a b=(decide (4352<=a/\a<=4370)&&decide (4449<=b/\b<=4469)):=by
   unfold makes;rw[E];simp[Cn.jl,Cn.jv]
  rw[e];generalize decide (4352<=a/\a<=4370)=y,decide (4449<=b/\b<=4469)=z at *;cases y
  ·rw[Bool.false_and];exact U0Z
  ·rw[Bool.true_and];exact n4e
namespace Cn
theorem y2y{r:Rec}(h:right r=0)(F:r.kind=6):1<=r.n/\r.n<=254:=by
 have z:=x0v h;unfold right at h;rw[if_neg z,if_neg f6J]at h;have I:=x1y h;rw[Bool.and_eq_true,if_neg f6J,if_neg f6J,if_neg f6J,if_neg f6J,if_neg f6J,if_pos F]at I;have Z:=I.2;simp only[Bool.and_eq_true]at Z;exact o0d Z.2
theorem z4o{l:List Rec}(h:(check6 l).2=0)(c:Int):0<=cls l c:=by
 unfold cls
 cases hh:hit l 2 c with
 | none=>simp
 | some r =>
  obtain⟨D,Z,_⟩:=x2u hh;have u:=(x1I h).2 r D
  have G:r.kind=6:=by
   revert Z;exact r2C
  have:=y2y u G;simp only;omega
def x2g(l:List Rec):Int->List Int->Bool
 | _,[]=>false
 | a,b::r=>decide (cls l b≠0/\cls l b<a)||x2g l (cls l b) r
theorem y7x(l:List Rec):∀(a:Int) (r:List Int),fallsA l (a::r)=x2g l (cls l a) r
 | _,[]=>rfl
 | a,b::r=>by rw[fallsA,x2g,y7x l b r]
theorem z4F{l:List Rec}(h:(check6 l).2=0):∀x:List Int,fallsA l x=x2g l 0 x
 | []=>rfl
 | a::r=>by
  rw[y7x,x2g,d0f (fun q=>by have:=z4o h a;exact f6J),Bool.false_or]
theorem y1Q{l:List Rec}{a:Int}{x:List Int}{k:Nat}(G:k<x.length):x2g l a (x.drop k)=(decide (cls l (x.getD k 0)≠0/\cls l (x.getD k 0)<a)||x2g l (cls l (x.getD k 0)) (x.drop (k+1))):=by
 rw[List.drop_eq_getElem_cons G,x2g];exact w7Y
def wfull(l:List Rec)(c:Int):Int:=if(full l c).2≠0 then(full l c).2 else if fallsA l (full l c).1 then 75 else 0
end Cn
theorem y1o(l cs b:List Rec)(cv ov:Value)(v:Nat)(c:Int)(w:World)(hg:Glob w)(h:Idx l w cv ov cs b)(hc:Rune c):Calls prog 131 #[xV cv ov (.map (some v)),.int .i32 c] w (IntB w (Cn.wfull l c)):=by
 obtain⟨p,D,rfl,_,_⟩:=h.rc.shape;obtain⟨P,B,rfl,_,_⟩:=h.ro.shape;have C:Bw w (w.alloc (.cells #[.slice p cs.length D,.slice P b.length B,.map (some v)] 125)):=(b0r).alloc (l0r _) _;have K:=O (z0w l cs b _ _ v c _ (hg.on C) (h.below C) hc);have Z:=O (fun W x (t:Bw w W) (hx:Rune x)=>x8s l cs b _ _ v x W (hg.on t) (h.below t) hx)
 have HX:Hid (∀W,Below (w.heap.size+1) (w.alloc (.cells #[.slice p cs.length D,.slice P b.length B,.map (some v)] 125)) W->W.cell? ⟨w.heap.size,0,none⟩=some (.slice p cs.length D)/\W.cell? ⟨w.heap.size,1,none⟩=some (.slice P b.length B)/\W.cell? ⟨w.heap.size,2,none⟩=some (.map (some v))):=fun W t=>f8H
 have aD:∀(fn:Fn) (first M:Array Value) (w:World),(Instr.makeFunc fn first M).run prog w=.ok (.func fn first M) w:=fun _ _ _ _=>rfl;have aC:=Cn.z4F h.ok (Cn.full l c).1;have aq:=Cn.x4f l c;have aj:Hid ((Cn.full l c).2≠0->Cn.wfull l c=(Cn.full l c).2):=fun q=>if_pos q;have J:Hid ((Cn.full l c).2=0->Cn.wfull l c=if Cn.x2g l 0 (Cn.full l c).1 then 75 else 0):=fun q=>(by unfold Cn.wfull;rw[if_neg f6J,aC]);generalize Cn.full l c=f,Cn.wfull l c=R at *;obtain⟨m,er⟩:=f;simp only at aj J aq;unfold xV at *;have ay:(w.alloc (.cells #[.slice p cs.length D,.slice P b.length B,.map (some v)] 125)).heap.size=w.heap.size+1:=M7L;go_enter func131,ntmps131;go_wp2_with fail;refine(V K).mono ?_;rintro e w1 ⟨v1,rfl,y,ag⟩;simp only at y;rw[ay]at ag y;have g:Bw w w1:=C.trans (ag.mono f6J);by_cases he:er=0
 ·subst he;have X:=V J rfl;rcases Nat.eq_zero_or_pos m.length with n0 | n0
  ·obtain rfl:m=[]:=List.eq_nil_of_length_eq_zero n0
   have T:IntB w R (.returned (.int .i64 0)) w1:=by
    rw[X];exact⟨rfl,g⟩
   obtain⟨s,M,rfl,_,_⟩:=y.sk.shape;exact r0V
  ·have U:=y.sk;obtain⟨xb,aA,o,rfl,aF,aG,az⟩:=U.place n0
   have Y:Hid (∀W,Below (w.heap.size+1) (w.alloc (.cells #[.slice p cs.length D,.slice P b.length B,.map (some v)] 125)) W->Bw w1 W->∀i,i<m.length->W.cell? ⟨xb,aA+i,none⟩=some (.int .i32 (m.getD i 0))):=fun W _ t i hi=>by
    rw[t.cell (x0a (az i hi))];exact az i hi
   have am:=O (fun k hk=>x1c U (i:=k) hk);have Q:=O (fun a k hk=>Cn.y1Q (l:=l) (a:=a) (x:=m) (k:=k) hk);have u:=O X;have ab:=O ag;have af:=O g;go_wp2;go_loopw[7,9,10,23] (fun a _ _ i wr=>∃(k:Nat) (z:Int),i=.int .i64 k/\a=.int .i64 z/\k<=m.length/\Hid (Cn.x2g l 0 m=Cn.x2g l z (m.drop k))/\Hid (Bw w1 wr)) (fun _ _ _ i _=>m.length-(intOf i).toNat)
   case atStart=>exact⟨0,0,rfl,rfl,f6J,V0q,b0r⟩
   case round =>
    obtain⟨k,z,rfl,rfl,hk,L,ae⟩:=hrel;have r:=V ae;have H:Below (w.heap.size+1) (w.alloc (.cells #[.slice p cs.length D,.slice P b.length B,.map (some v)] 125)) wr:=(V ab).trans (r.mono (by have:=(V ab).size;simp at this;exact f6J));have I:Bw w wr:=x0b (V af) r;by_cases ai:k<m.length
    ·have a0:=V Y wr H r k ai;obtain⟨y0,y1,y2⟩:=V HX wr H;have KK:=O (V Z wr (m.getD k 0) I (V am k ai));have aw:=V Q z k ai;rw[<- V L]at aw;have F:=O aw;generalize Cn.cls l (m.getD k 0)=n at *;generalize m.getD k 0=x at *;go_wp2_with fail;refine c0m KK fun w2 aB=>?_;have S:Bw w1 w2:=x0b (V ae) aB;have G:Bw w w2:=x0b (V af) S;by_cases j:n≠0/\n<z
     ·have T:IntB w R (.returned (.int .i64 75)) w2:=by
       have N:=V u;rw[V F,d0t j,Bool.true_or]at N;rw[N];exact⟨rfl,G⟩
      obtain⟨A,ar⟩:=j;have hq:(n != 0)=true:=(by simp[A]);exact U7I
     ·have E:Hid (Cn.x2g l 0 m=Cn.x2g l n (m.drop (k+1))):=by
       show _=_;rw[V F,d0f j,Bool.false_or]
      have d:=O S;by_cases ar:n<z
      ·have A:n=0:=by
        rcases Int.decEq n 0 with h | h
        ·exact absurd ⟨h,ar⟩ j
        ·exact h
       subst A;go_wp2
       go_roundw
       case rel=>exact⟨k+1,0,g2A,rfl,f6J,E,d⟩
       case measure=>exact g7V
      ·clear Y am Q u ab af Z HX F ae S G j;go_wp2
       go_roundw
       case rel=>exact⟨k+1,n,g2A,rfl,f6J,E,d⟩
       case measure=>exact g7V
    ·obtain rfl:k=m.length:=by omega
     have T:IntB w R (.returned (.int .i64 0)) wr:=by
      have N:=V u;rw[V L,List.drop_length]at N;rw[N];exact⟨rfl,I⟩
     exact U7I
 ·obtain rfl:=V aj he;have T:IntB w R (.returned (.int .i64 R)) w1:=⟨rfl,g⟩;have hq:(R != 0)=true:=(by simp[he]);obtain⟨s,M,rfl,_,_⟩:=y.sk.shape;exact U7I
