import Derived.Test.YtbmckadcjdedcaaGreatDoorF5
import Derived.Defers
import Derived.Recover
import Derived.Shelf.SlSortCmp.WholeK
set_option maxHeartbeats 4000000
set_option maxRecDepth 8000
namespace Go.Proofs.YtbmckadcjdedcaaGreatDoor
open Go.Proofs.Tryz
open Go.RowKit
section
variable{p:Prop}
theorem R8h(h:p:=by
 unfold fam at h;split at h
 ·omega
 ·omega):p:=h
theorem r2C(h:p:=by
 unfold fam;split
 ·intro e;omega
 ·omega):p:=h
theorem r2m(h:p:=by simp[Act.eval,Array.replicate]):p:=h
theorem m5b(h:p:=by go_enter func130,ntmps130;go_wp2_with fail;refine c0m B fun Q F=>?_;subst Q;go_wp2_with fail;refine c0m H fun Q F=>?_;subst Q;go_wp2_with fail;refine c0m o fun Q F=>?_;subst Q;go_wp2;go_ret;exact⟨rfl,rfl⟩):p:=h
theorem v6g(h:p:=by push_cast;rw[Int.add_mul];exact f6J):p:=h
theorem s8h(h:p:=by rw[h];exact e8M):p:=h
theorem m6c(h:p:=by simp[o]):p:=h
theorem I3D(h:p:=by go_enter func173,ntmps173;exact t6u):p:=h
theorem r0q(h:p:=by go_wp2;go_ret;exact⟨rfl,V B⟩):p:=h
theorem g4O(h:p:=by
 constructor
 ·intro h;cases h
 ·rintro⟨k,_,D,_⟩;have:=Int.mul_nonneg (f6J:(0:Int)<=k) U;omega):p:=h
theorem w8p(h:p:=by show 0<1;exact f6J):p:=h
theorem S7a(h:p:=by go_enter func172,ntmps172;go_wp2_with(go_at_call 228;refine(V K _ _).mono ?_;rintro e Q ⟨rfl,rfl⟩);go_ret;exact g9T):p:=h
theorem p3W(h:p:=by
 rcases Int.lt_or_le 0 j with D|D
 ·have:s*1<=s*j:=Int.mul_le_mul_of_nonneg_left f6J f6J;omega
 ·have:=Int.mul_nonpos_of_nonneg_of_nonpos (f6J:0<=s) D;omega):p:=h
theorem w1Z(h:p:=by go_enter func130,ntmps130;go_wp2_with fail;refine c0m B fun Q F=>?_;subst Q;go_wp2_with fail;refine c0m H fun Q F=>?_;subst Q;go_wp2;go_ret;exact⟨rfl,rfl⟩):p:=h
theorem R6c(h:p:=by simpa using K):p:=h
theorem R8n(h:p:=by rintro e Q ⟨rfl,rfl⟩;exact r0q):p:=h
theorem M1V(h:p:=by simpa using g):p:=h
theorem w8b(h:p:=by simp[List.getD,G]):p:=h
theorem f8G(h:p:=by
 refine⟨?_,?_,?_⟩
 all_goals
  rw[t.cell (by show w.heap.size<_;exact f6J)];simp):p:=h
end
theorem z9G w:(Instr.typeAssert .nilIface 20 29 true).run prog w=.ok (.tuple #[.int .i64 0,.bool false]) w:=f4x
theorem ta_ok n w:(Instr.typeAssert (.iface 29 (.int .i64 n)) 20 29 true).run prog w=.ok (.tuple #[.int .i64 n,.bool true]) w:=f4x
theorem y4Q p q w:CallsD prog 229 #[.pointer (some p),.pointer (some q)] .returning w fun e b w'=>e=.returned (.tuple #[])/\b=.returning/\w'=w:=by
  refine callsD_of_wpS func229 rfl fun c₀ f W=>?_;apply wpS_seq;apply wpS_region;simp[wpOpsS,go_sem,recoverD,W,ntmps229,Exit.thenS,z9G];apply wpS_seq;apply wpS_region;simp[wpOpsS,go_sem,Exit.thenS];refine wpS_cond (t:=false) r2m ?_;simp only[Bool.false_eq_true,if_false];refine wpS_of_wp (wp_skip ?_);cases c₀;simp_all [bodyPostS,results,Tryz.results229]
theorem y4P p q n x y(A:List PanicEntry) w(L:w.cell? p=some x)(C:w.frozen? p=false)(m:(w.setCell p (.slice none 0 0)).cell? q=some y)(B:(w.setCell p (.slice none 0 0)).frozen? q=false) :
    CallsD prog 229 #[.pointer (some p),.pointer (some q)] (.panicking ({ v:=.iface 29 (.int .i64 n),recovered:=false }::A)) w fun e b w' =>
      e=.returned (.tuple #[])/\b=.panicking ({ v:=.iface 29 (.int .i64 n),recovered:=true }::A)/\w'=(w.setCell p (.slice none 0 0)).setCell q (.int .i64 n):=by
  refine callsD_of_wpS func229 rfl fun c₀ f W=>?_;apply wpS_seq;apply wpS_region;simp[wpOpsS,go_sem,recoverD,W,ntmps229,Exit.thenS,ta_ok];apply wpS_seq;apply wpS_region;simp[wpOpsS,go_sem,Exit.thenS];refine wpS_cond (t:=true) r2m ?_;simp only[if_true];apply wpS_region;simp[wpOpsS,go_sem,L,C,m,B,bodyPostS,results,Tryz.results229]
def fw(w:World)(fv:Value):World:=((w.alloc (.cells #[.slice none 0 0] 40)).alloc (.cells #[.int .i64 0] 29)).alloc (.cells #[fv,.slice none 0 0,.slice none 0 0] 303)
theorem z8n w fv:(fw w fv).heap[w.heap.size]?=some (.cells #[.slice none 0 0] 40 (0,0))/\(fw w fv).heap[w.heap.size+1]?=some (.cells #[.int .i64 0] 29 (0,0))/\(fw w fv).heap[w.heap.size+2]?=some (.cells #[fv,.slice none 0 0,.slice none 0 0] 303 (0,0))/\(fw w fv).heap.size=w.heap.size+3:=by
  have e:(fw w fv).heap=((w.heap.push (.cells #[.slice none 0 0] 40 (0,0))).push (.cells #[.int .i64 0] 29 (0,0))).push (.cells #[fv,.slice none 0 0,.slice none 0 0] 303 (0,0)):=rfl;rw[e];refine⟨?_,?_,?_,M7K⟩
  · grind
  · grind
  · rw[Array.getElem?_push];simp
theorem z8o w fv:Wk w.heap.size (fw w fv) (w.heap.size+2) fv [] [] (.slice none 0 0) (.slice none 0 0) :=
  ⟨(z8n w fv).2.2.1,f6J,Ok.nil _ _ _ _,Ok.nil _ _ _ _,fun g h=>by simp[Value.ownBlock]at h⟩
theorem y3K w fv:Bw w (fw w fv):=(((b0r).alloc (l0r _) _).alloc M7M _).alloc P8P _
theorem y3J{w w1 fv v out n}(X:Frm (fw w fv) w1 (w.heap.size+2) (.slice none 0 0) (.slice none 0 0))(N:Ok .i32 21 w1 w.heap.size v out) :
    w1.heap[w.heap.size]?=some (.cells #[.slice none 0 0] 40 (0,0))/\w1.heap[w.heap.size+1]?=some (.cells #[.int .i64 0] 29 (0,0)) /\
    (∀u,((w1.setCell ⟨w.heap.size,0,none⟩ u).setCell ⟨w.heap.size+1,0,none⟩ (.int .i64 n)).heap[w.heap.size]?=some (.cells #[u] 40 (0,0)) /\
     ((w1.setCell ⟨w.heap.size,0,none⟩ u).setCell ⟨w.heap.size+1,0,none⟩ (.int .i64 n)).heap[w.heap.size+1]?=some (.cells #[.int .i64 n] 29 (0,0)) /\
     (w1.setCell ⟨w.heap.size,0,none⟩ u).heap[w.heap.size+1]?=some (.cells #[.int .i64 0] 29 (0,0)) /\
     Bw w ((w1.setCell ⟨w.heap.size,0,none⟩ u).setCell ⟨w.heap.size+1,0,none⟩ (.int .i64 n)) /\
     Ok .i32 21 ((w1.setCell ⟨w.heap.size,0,none⟩ u).setCell ⟨w.heap.size+1,0,none⟩ (.int .i64 n)) w.heap.size v out):=by
  obtain⟨E,L,P,t⟩:=z8n w fv;have d:w1.heap[w.heap.size]?=some (.cells #[.slice none 0 0] 40 (0,0)):=(by rw[X.keep _ f6J f6J V3H V3H];exact E);have B:w1.heap[w.heap.size+1]?=some (.cells #[.int .i64 0] 29 (0,0)):=(by rw[X.keep _ f6J f6J V3H V3H];exact L);refine⟨d,B,fun u=>?_⟩;have U:(w1.setCell ⟨w.heap.size,0,none⟩ u).heap[w.heap.size+1]?=some (.cells #[.int .i64 0] 29 (0,0)):=(by rw[x0g _ f6J];exact B);refine⟨?_,?_,U,?_,?_⟩
  · rw[x0g _ f6J,x0f d];rfl
  · rw[x0f U];rfl
  · have Y:Bw w w1:=(y3K w fv).trans (X.below (z8o w fv) f6J)
    exact x0d (x0d Y (l0r _) u) f6J _
  · refine N.keep fun g Z=>?_
    obtain⟨T,I⟩:=y9t N Z;have C:g≠w.heap.size:=fun e=>(by subst e;rw[d]at I;simp at I);have J:g≠w.heap.size+1:=fun e=>(by subst e;rw[B]at I;simp at I);rw[x0g _ J,x0g _ C]
theorem fullK g fa cb rs w(H:y1J g fa cb rs w)(eg:∀args w,(callFunc g args).run prog w=.ok (.enter g args) w)(s:∀c,(Cn.opn rs c).length<=1000000000) c(I:Rune c) :
    Calls prog 177 #[.func (.func g) fa cb,.int .i32 c] w (x7t w (Cn.full rs c)):=by
  have K:=O (z1J g fa cb rs w H eg s 16 [] c [] (fw w (.func (.func g) fa cb)) (w.heap.size+2) _ _ M7L M7L I (y3K w _) (z8o w _));have ae:∀(fn:Fn) (first M:Array Value) (w:World),(Instr.makeFunc fn first M).run prog w=.ok (.func fn first M) w:=fun _ _ _ _=>rfl;have i:=Cn.x4k rs c;have a:=Cn.y4t rs 16 [] c [];change Hid (Calls _ _ _ _ (x5y _ _ _ _ _ _ _ (Cn.full rs c)))at K;change (Cn.full rs c).2≠0->(Cn.full rs c).1=[]at a;generalize Cn.full rs c=r at *;have L:Hid (r.2≠0->r.1=[]):=a;go_enter_defers func177,ntmps177;go_wp2_with fail;refine(V K).mono ?_;rintro P Q ⟨X,⟨F,W⟩|⟨h0,rfl,E,ab,N,af,Z⟩⟩
  · unfold Gave at W
    subst W;obtain⟨d,B,A⟩:=y3J (n:=r.2) X (Ok.nil _ _ _ _);obtain⟨k,U,G,x,Y⟩:=A (.slice none 0 0);have T:x7t w r (.returned (.tuple #[.slice none 0 0,.int .i64 r.2])) ((Q.setCell ⟨w.heap.size,0,none⟩ (.slice none 0 0)).setCell ⟨w.heap.size+1,0,none⟩ (.int .i64 r.2)):=⟨_,rfl,by rw[V L F];exact Y,x⟩;have t:=cell_of (j:=0) k w8p;have J:=cell_of (j:=0) U w8p;refine leaves_cons (f:=229) (args:=#[.pointer (some ⟨w.heap.size,0,none⟩),.pointer (some ⟨w.heap.size+1,0,none⟩)]) M7L (by simp[go_sem]) ?_;refine(y4P ⟨w.heap.size,0,none⟩ ⟨w.heap.size+1,0,none⟩ r.2 _ _ [] Q (cell_of (j:=0) d w8p) (x0e d) (cell_of (j:=0) G w8p) (x0e G)).mono ?_;rintro e b w2 ⟨rfl,rfl,rfl⟩;generalize(Q.setCell ⟨w.heap.size,0,none⟩ (.slice none 0 0)).setCell ⟨w.heap.size+1,0,none⟩ (.int .i64 r.2)=D at *;have o:D.cell? ⟨w.heap.size,0,none⟩=some (.slice none 0 0):=t;have p:D.cell? ⟨w.heap.size+1,0,none⟩=some (.int .i64 r.2):=J;simp[Leaves,settle,results,Tryz.results177,go_sem,o,p];exact T
  · obtain⟨R,M,rfl,_,_⟩:=N.e.sk.shape
    obtain⟨d,B,A⟩:=y3J (n:=0) X N.e;obtain⟨k,U,G,x,Y⟩:=A (.slice R r.1.length M);have T:x7t w r (.returned (.tuple #[.slice R r.1.length M,.int .i64 0])) ((Q.setCell ⟨w.heap.size,0,none⟩ (.slice R r.1.length M)).setCell ⟨w.heap.size+1,0,none⟩ (.int .i64 0)):=⟨_,by rw[h0],Y,x⟩;have S:Q.cell? ⟨w.heap.size+1+1,2,none⟩=some (.slice R r.1.length M):=cell_of (j:=2) N.blk U4t;have z:Q.cell? ⟨w.heap.size,0,none⟩=some (.slice none 0 0):=cell_of (j:=0) d w8p;have m:Q.cell? ⟨w.heap.size+1,0,none⟩=some (.int .i64 0):=cell_of (j:=0) B w8p;have u:=x0e (j:=0) d;have y:=x0e (j:=0) B;have C:(Q.setCell ⟨w.heap.size,0,none⟩ (.slice R r.1.length M)).cell? ⟨w.heap.size+1,0,none⟩=some (.int .i64 0):=cell_of (j:=0) G w8p;have v:=x0e (j:=0) G;have t:((Q.setCell ⟨w.heap.size,0,none⟩ (.slice R r.1.length M)).setCell ⟨w.heap.size+1,0,none⟩ (.int .i64 0)).cell? ⟨w.heap.size,0,none⟩=some (.slice R r.1.length M):=cell_of (j:=0) k w8p;have J:((Q.setCell ⟨w.heap.size,0,none⟩ (.slice R r.1.length M)).setCell ⟨w.heap.size+1,0,none⟩ (.int .i64 0)).cell? ⟨w.heap.size+1,0,none⟩=some (.int .i64 0):=cell_of (j:=0) U w8p;have l:=O t;have q:=O J;go_wp2;refine leaves_cons (f:=229) (args:=#[.pointer (some ⟨w.heap.size,0,none⟩),.pointer (some ⟨w.heap.size+1,0,none⟩)]) M7L (by simp[go_sem]) ?_;refine(y4Q ⟨w.heap.size,0,none⟩ ⟨w.heap.size+1,0,none⟩ _).mono ?_;rintro e b w2 ⟨rfl,rfl,rfl⟩;have t:=V l;have J:=V q;simp[Leaves,settle,results,Tryz.results177,go_sem,t,J];exact T
end Go.Proofs.YtbmckadcjdedcaaGreatDoor
namespace Go.Proofs.YtbmckadcjdedcaaGreatDoor.Cn
open Go.Proofs.Tryz
def x8Z(lo hi s x:Int):Prop:=lo<=x/\x<=hi/\s∣x-lo
theorem y4n{lo1 hi1 s1 lo2 hi2 s2 c0:Int}{N:Nat}(Z:0<s1)(D:0<s2)(r:s2<=N)(g:lo1<=c0)(Y:lo2<=c0)(hd:s1∣c0-lo1)(C:∀x,lo1<=x->lo2<=x->s1∣x-lo1->c0<=x) :
  (∃x,x8Z lo1 hi1 s1 x/\x8Z lo2 hi2 s2 x)↔∃k:Nat,k<N/\c0+k*s1<=hi1/\c0+k*s1<=hi2/\s2∣c0+k*s1-lo2:=by
 constructor
 ·rintro⟨x,⟨H,P,t⟩,b1,m,b⟩;have a:=C x H b1 t
  obtain⟨j,K⟩:s1∣x-c0:=by
   have:=Int.dvd_sub t hd;rwa [(f6J:x-lo1-(c0-lo1)=x-c0)]at this
  have G:0<=j:=by
   rcases Int.lt_or_le j 0 with h|h
   ·have:=Int.mul_neg_of_pos_of_neg Z h;omega
   ·exact h
  have L:=Int.emod_nonneg j (f6J:s2≠0);have U:=Int.emod_lt_of_pos j D
  have A:j%s2<=j:=by
   have:=Int.emod_add_mul_ediv j s2;have:=Int.mul_nonneg (f6J:0<=s2) (Int.ediv_nonneg G (f6J:0<=s2));omega
  have E:j%s2*s1<=x-c0:=by
   rw[K,Int.mul_comm s1 j];exact Int.mul_le_mul_of_nonneg_right A f6J
  refine⟨(j%s2).toNat,f6J,?_,?_,?_⟩
  ·rw[Int.toNat_of_nonneg L];omega
  ·rw[Int.toNat_of_nonneg L];omega
  ·rw[Int.toNat_of_nonneg L];have e:c0+j%s2*s1-lo2=(x-lo2)-(j-j%s2)*s1:=(by grind);rw[e];refine Int.dvd_sub b (Int.dvd_mul_of_dvd_left ?_);exact Int.dvd_self_sub_emod
 ·rintro⟨k,_,B,M,c⟩;have F:0<=(k:Int)*s1:=Int.mul_nonneg f6J f6J;refine⟨c0+k*s1,⟨f6J,B,?_⟩,f6J,M,c⟩;rw[(f6J:c0+(k:Int)*s1-lo1=(c0-lo1)+k*s1)];exact Int.dvd_add hd (Int.dvd_mul_left _ _)
theorem x0G{r}(h:right r=0)(G:r.kind≠15) c:speaks r c=true↔x8Z r.lo r.hi (step r) c:=by
 have U:=right_step h;have L:=x0n h G;unfold speaks x8Z;rw[decide_eq_true_iff];constructor
 ·omega
 ·omega
theorem x7U(b:Rec){s hi:Int}(U:0<=s):∀(n:Nat) (c:Int),clashA b s hi n c=true↔∃k:Nat,k<n/\c+k*s<=hi/\speaks b (c+k*s)=true
 | 0,c=>by simp[clashA]
 | n+1,c=>by
  rw[clashA];split
  ·next hc =>
   rw[Bool.or_eq_true,x7U b U n];constructor
   ·rintro(h|⟨k,Z,D,R⟩)
    ·exact⟨0,f6J,by simpa using hc,by simpa using h⟩
    ·refine⟨k+1,f6J,?_,?_⟩
     ·rw[(v6g:c+((k+1:Nat):Int)*s=c+s+k*s)];exact D
     ·rw[(v6g:c+((k+1:Nat):Int)*s=c+s+k*s)];exact R
   ·rintro⟨k,Z,D,R⟩
    cases k with
    | zero=>left;simpa using R
    | succ k =>
     right;rw[(v6g:c+((k+1:Nat):Int)*s=c+s+k*s)]at D R;exact⟨k,f6J,D,R⟩
  ·next hc =>
   exact g4O
theorem y8i{lo1 lo2 s}(h:0<s){c0:Int}(I:c0=if lo1<lo2 then lo1+(lo2-lo1+s-1) / s*s else lo1) :
  lo1<=c0/\lo2<=c0/\s∣c0-lo1/\∀x,lo1<=x->lo2<=x->s∣x-lo1->c0<=x:=by
 by_cases S:lo1<lo2
 ·rw[if_pos S]at I;have e:=Int.emod_add_mul_ediv (lo2-lo1+s-1) s;have p:=Int.emod_nonneg (lo2-lo1+s-1) (f6J:s≠0);have P:=Int.emod_lt_of_pos (lo2-lo1+s-1) h;rw[Int.mul_comm]at e;have m:s∣(lo2-lo1+s-1) / s*s:=Int.dvd_mul_left _ _;generalize(lo2-lo1+s-1) / s*s=q at *;subst I;refine⟨f6J,f6J,by rw[(f6J:lo1+q-lo1=q)];exact m,fun x a b d=>?_⟩;obtain⟨j,K⟩:=Int.dvd_sub m d;exact p3W
 ·simp_all
theorem x1V{a b}(g:right a=0)(Y:right b=0)(E:fam a.kind=fam b.kind)(G:a.kind≠15)(A:b.kind≠15):clash a b=true↔∃c,speaks a c=true/\speaks b c=true:=by
 have C:=right_step g;have u:=right_step Y;unfold clash;rw[if_neg (by simp[E]),if_neg G,x7U b f6J];obtain⟨y,z,B,X⟩:=y8i (lo1:=a.lo) (lo2:=max a.lo b.lo) (f6J:0<step a) rfl;generalize(if a.lo<max a.lo b.lo then a.lo+(max a.lo b.lo-a.lo+step a-1) / step a*step a else a.lo)=c0 at *;have:=y4n (hi1:=a.hi) (hi2:=b.hi) (N:=64) (lo1:=a.lo) (lo2:=b.lo) (s1:=step a) (s2:=step b) (c0:=c0) f6J f6J f6J y f6J B (fun x p q d=>X x p f6J d);constructor
 ·rintro⟨k,Z,D,R⟩;rw[x0G Y A]at R;obtain⟨x,J,U⟩:=this.2 ⟨k,Z,f6J,f6J,R.2.2⟩;exact⟨x,(x0G g G x).2 J,(x0G Y A x).2 U⟩
 ·rintro⟨x,J,U⟩;obtain⟨k,Z,D,R,H⟩:=this.1 ⟨x,(x0G g G x).1 J,(x0G Y A x).1 U⟩;refine⟨k,Z,f6J,(x0G Y A _).2 ⟨?_,R,H⟩⟩;have:=Int.mul_nonneg (f6J:(0:Int)<=k) (f6J:0<=step a);omega
theorem x8R{k}(h:fam k=10):k=15:=R8h
theorem y4W{a b}(g:right a=0)(Y:right b=0):clash a b=clash b a:=by
 by_cases X:fam a.kind=fam b.kind
 ·by_cases G:a.kind=15
  ·have A:b.kind=15:=x8R (by rw[<- X,G];exact e8M);unfold clash;rw[if_neg (by simp[X]),if_pos G,if_neg (by simp[X]),if_pos A];refine decide_eq_decide.2 ⟨?_,?_⟩
   ·grind
   ·rintro(⟨Z,D⟩|⟨Z,D⟩)
    ·exact .inl ⟨Z.symm,D.symm⟩
    ·exact .inr ⟨D.symm,Z.symm⟩
  ·have A:b.kind≠15:=fun e=>G (x8R (by rw[X,e];exact e8M));have Z:=x1V g Y X G A;have D:=x1V Y g X.symm A G;rw[Bool.eq_iff_iff,Z,D];constructor<;>exact fun⟨c,p,q⟩=>⟨c,q,p⟩
 ·unfold clash;rw[if_pos X,if_pos (fun e=>X e.symm)]
end Go.Proofs.YtbmckadcjdedcaaGreatDoor.Cn
namespace Go.Proofs.YtbmckadcjdedcaaGreatDoor.Cn
open Go.Proofs.Tryz
theorem getD_at{l:List Rec}{k}(h:k<l.length):l.getD k none=l[k]:=p8I
theorem x7l{l:List Rec}:∀(n i:Nat),l.length-i=n->i<=l.length->(x1E l i (l.drop i)=Option.none↔∀j,i<=j->(K:j<l.length)->∀k,(G:k<j)->clash l[k] l[j]=false)
 | 0,i,hn,hi=>by
  rw[List.drop_eq_nil_of_le f6J,x1E];exact⟨fun _ j a b=>f6J,fun _=>rfl⟩
 | n+1,i,hn,hi=>by
  have S:i<l.length:=f6J;rw[List.drop_eq_getElem_cons S,x1E];have B:=x7l (l:=l) n (i+1) f6J S
  have A:((l.take i).any fun k=>clash k l[i])=true↔∃k,∃G:k<i,clash l[k] l[i]=true:=by
   rw[List.any_eq_true];constructor
   ·rintro⟨x,J,I⟩;obtain⟨k,G,rfl⟩:=List.mem_take_iff_getElem.1 J;exact⟨k,f6J,I⟩
   ·rintro⟨k,G,I⟩;exact⟨l[k],List.mem_take_iff_getElem.2 ⟨k,f6J,rfl⟩,I⟩
  split
  ·next h =>
   obtain⟨k,G,I⟩:=A.1 h;exact⟨fun h=>(nomatch h),fun h=>by rw[h i (l0r _) S k G]at I;cases I⟩
  ·next h =>
   rw[B];constructor
   ·intro D j hij K k G;rcases Nat.eq_or_lt_of_le hij with rfl|hij
    ·exact Bool.eq_false_iff.2 fun I=>h (A.2 ⟨k,G,I⟩)
    ·exact D j hij K k G
   ·exact fun D j hij K k G=>D j f6J K k G
theorem x6Z:∀(l:List Rec) (i:Nat),x1f i l=Option.none↔∀r∈l,right r=0
 | [],_=>⟨fun _ r hr=>absurd hr M7K,fun _=>rfl⟩
 | x::l,i=>by
  rw[x1f,List.forall_mem_cons];split
  ·next h=>rw[x6Z l];exact⟨fun a=>⟨h,a⟩,fun a=>a.2⟩
  ·next h=>exact⟨fun a=>(nomatch a),fun a=>absurd a.1 h⟩
theorem x0m{l}:(check6 l).2=0↔l.length<=4096/\(∀r∈l,right r=0)/\l.Pairwise fun a b=>clash a b=false:=by
 have Q:=x7l (l:=l) l.length 0 f6J f6J;rw[List.drop_zero]at Q;have u:=x6Z l 0;rw[List.pairwise_iff_getElem];unfold check6;split
 ·omega
 ·next h =>
  split
  ·next x hx =>
   refine⟨fun a=>absurd a (x2s _ _ _ hx),fun a=>?_⟩;rw[u.2 a.2.1]at hx;cases hx
  ·grind
theorem y0s(f c:Int):∀(l:List Rec) (i:Nat),0<=findA f c i l->∃k,∃G:k<l.length,findA f c i l=(i+k:Nat)/\fam l[k].kind=f/\speaks l[k] c=true
 | [],i,h=>by rw[findA]at h;exact f6J
 | r::l,i,h=>by
  rw[findA]at h ⊢;split
  ·next hr=>exact⟨0,M7M,M7M,hr.1,hr.2⟩
  ·next hr =>
   rw[if_neg hr]at h;obtain⟨k,G,Z,D,R⟩:=y0s f c l (i+1) h;exact⟨k+1,P8P,by rw[Z];congr 1;exact f6J,D,R⟩
theorem x4O(f c:Int):∀(l:List Rec) (i:Nat),(∃r∈l,fam r.kind=f/\speaks r c=true)->0<=findA f c i l
 | [],i,⟨r,hr,_⟩=>by cases hr
 | x::l,i,⟨r,hr,h1,h2⟩=>by
  rw[findA];split
  ·omega
  ·next hx =>
   rcases List.mem_cons.1 hr with rfl|hr
   ·exact absurd ⟨h1,h2⟩ hx
   ·exact x4O f c l (i+1) ⟨r,hr,h1,h2⟩
theorem x2b{l f c r}(h:hit l f c=some r):r∈l/\fam r.kind=f/\speaks r c=true:=by
 unfold hit at h;split at h
 ·cases h
 ·next hf =>
  cases h;unfold find at hf ⊢;split at hf
  ·omega
  ·next hg =>
   rw[if_neg hg];obtain⟨k,G,Z,D,R⟩:=y0s f c l 0 f6J;rw[Z,(f6J:((0+k:Nat):Int).toNat=k),getD_at G];exact⟨List.getElem_mem G,D,R⟩
theorem once{l}(h:(check6 l).2=0){f c a b}(g:a∈l)(Y:b∈l)(A:fam a.kind=f)(fb:fam b.kind=f)(N:speaks a c=true)(M:speaks b c=true):a=b:=by
 obtain⟨_,u,L⟩:=x0m.1 h;rw[List.pairwise_iff_getElem]at L
 have G:∀{x:Rec},speaks x c=true->x.kind≠15:=fun J=>by
  unfold speaks at J;exact(o0d J).1
 obtain⟨i,hi,rfl⟩:=List.getElem_of_mem g;obtain⟨j,K,rfl⟩:=List.getElem_of_mem Y;rcases Nat.lt_trichotomy i j with D|rfl|D
 ·have:=L i j hi K D;rw[Bool.eq_false_iff]at this;exact absurd ((x1V (u _ g) (u _ Y) (A.trans fb.symm) (G N) (G M)).2 ⟨c,N,M⟩) this
 ·rfl
 ·have:=L j i K hi D;rw[Bool.eq_false_iff]at this;exact absurd ((x1V (u _ Y) (u _ g) (fb.trans A.symm) (G M) (G N)).2 ⟨c,M,N⟩) this
theorem x1z{l}(h:(check6 l).2=0){f c}(X:f≠10/\f≠0) r:hit l f c=some r↔r∈l/\fam r.kind=f/\speaks r c=true:=by
 refine⟨x2b,fun⟨h1,h2,h3⟩=>?_⟩;have U:=x4O f c l 0 ⟨r,h1,h2,h3⟩
 have d:hit l f c=some (l.getD (find l f c).toNat none):=by
  unfold hit;rw[if_neg];unfold find;rw[if_neg f6J];omega
 obtain⟨J,I,M⟩:=x2b d;rw[d,once h J h1 I h2 M h3]
theorem y3P{l f c}(X:f≠10/\f≠0)(h:hit l f c=Option.none):∀r∈l,fam r.kind=f->speaks r c=false:=by
 intro r u D;refine Bool.eq_false_iff.2 fun R=>?_;have U:=x4O f c l 0 ⟨r,u,D,R⟩;unfold hit at h;rw[if_neg]at h
 ·cases h
 ·unfold find;rw[if_neg f6J];omega
end Go.Proofs.YtbmckadcjdedcaaGreatDoor.Cn
namespace Go.Proofs.YtbmckadcjdedcaaGreatDoor.Cn
open Go.Proofs.Tryz
def y1n(a b:Rec):Prop:=a.kind=7/\b.kind=7/\a.to.getD 0 0=b.to.getD 0 0/\a.to.getD 1 0=b.to.getD 1 0
theorem z2P{l i r}(o:r.kind=7):pair l i r=true↔pair l 0 r=true/\∀k∈l.take i,¬y1n k r:=by
 unfold pair;rw[Bool.and_eq_true,Bool.and_eq_true];have A:(!((l.take 0).any fun k=>decide (k.kind=7/\k.to.getD 0 0=r.to.getD 0 0/\k.to.getD 1 0=r.to.getD 1 0)))=true:=M7K
 have hi:(!((l.take i).any fun k=>decide (k.kind=7/\k.to.getD 0 0=r.to.getD 0 0/\k.to.getD 1 0=r.to.getD 1 0)))=true↔∀k∈l.take i,¬y1n k r:=by
  rw[Bool.not_eq_true',Bool.eq_false_iff,Ne,List.any_eq_true];constructor
  ·exact fun h k G ⟨a,_,b,c⟩=>h ⟨k,G,d0t ⟨a,b,c⟩⟩
  ·rintro h ⟨k,G,hd⟩;obtain⟨a,b,c⟩:=o0d hd;exact h k G ⟨a,o,b,c⟩
 rw[hi];exact⟨fun⟨a,b⟩=>⟨⟨a,A⟩,b⟩,fun⟨⟨a,_⟩,b⟩=>⟨a,b⟩⟩
def recF(l:List Rec)(r:Rec)(b:Bool):Int :=
 if fam r.kind≠2/\fam r.kind≠3 then 0
 else if covers r 0 127 then 70
 else if covers r 4352 4370||covers r 4449 4469||covers r 4520 4546||covers r 44032 55203 then 71
 else if r.kind=7/\((jl (r.to.getD 0 0)&&jv (r.to.getD 1 0))||(syl (r.to.getD 0 0)&&decide ((r.to.getD 0 0-44032)%28=0)&&jt (r.to.getD 1 0)))=true then 71
 else if fam r.kind=2 then 0
 else if(full l r.lo).2≠0 then(full l r.lo).2
 else if fallsA l (full l r.lo).1 then 75
 else if b=true then 74
 else 0
theorem x9C l i r:record l i r=recF l r (decide (r.kind=7/\pair l i r=false)):=by
 unfold record recF;simp only[decide_eq_true_eq]
theorem recF_two{l r}(X:fam r.kind=3):(recF l r true=recF l r false/\recF l r false≠0)\/(recF l r true=74/\recF l r false=0):=by
 unfold recF;have Z:¬(fam r.kind≠2/\fam r.kind≠3):=fun h=>h.2 X;have D:¬fam r.kind=2:=f6J;simp only[if_neg Z,if_neg D,if_true];by_cases j:covers r 0 127=true
 ·simp[j]
 ·grind
theorem x4Z{l i r}:record l i r=0↔record l 0 r=0/\∀k∈l.take i,¬y1n k r:=by
 rw[x9C,x9C];by_cases o:r.kind=7
 ·have L:=z2P (l:=l) (i:=i) o;have X:fam r.kind=3:=(by rw[o];exact e8M);have e:∀i,decide (r.kind=7/\pair l i r=false)=!(pair l i r):=fun i=>(by cases pair l i r<;>simp[o]);rw[e,e];rcases recF_two (l:=l) X with⟨Z,D⟩ | ⟨Z,D⟩
  ·grind
  ·grind
 ·have e:∀i,decide (r.kind=7/\pair l i r=false)=false:=fun i=>m6c;rw[e,e];exact⟨fun a=>⟨a,fun k _ s=>o s.2.1⟩,fun a=>a.1⟩
theorem x5u{l:List Rec}:∀(m:List Rec) (i:Nat),x0U l i m=Option.none↔∀j,(K:j<m.length)->record l (i+j) m[j]=0
 | [],i=>⟨fun _ j K=>absurd K M7L,fun _=>rfl⟩
 | r::m,i=>by
  rw[x0U];split
  ·next h =>
   rw[x5u m];constructor
   ·intro D j K
    cases j with
    | zero=>exact h
    | succ j =>
     have:=D j R6c;rwa [(f6J:i+1+j=i+(j+1))]at this
   ·intro D j K;have:=D (j+1) R6c;rwa [(f6J:i+(j+1)=i+1+j)]at this
  ·next h=>exact⟨fun a=>(nomatch a),fun a=>absurd (a 0 M7L) h⟩
theorem x3V{l:List Rec}:∀(m:List Rec) (i:Nat) (x:Nat×Int),x0U l i m=some x->x.2≠0
 | [],_,_,h=>by rw[x0U]at h;exact m5j
 | y::m,i,x,h=>by
  rw[x0U]at h;split at h
  ·exact x3V m (i+1) x h
  ·next hx=>cases h;exact hx
theorem x0M{l}:(check l).2=0↔(check6 l).2=0/\(∀r∈l,record l 0 r=0)/\(l.Pairwise fun a b=>¬y1n a b)/\baseA l 78 45=true:=by
 have u:=x5u (l:=l) l 0
 have J:(∀j,(K:j<l.length)->record l (0+j) l[j]=0)↔(∀r∈l,record l 0 r=0)/\l.Pairwise fun a b=>¬y1n a b:=by
  rw[List.pairwise_iff_getElem];constructor
  ·intro h;refine⟨fun r u=>?_,fun i j hi K I=>?_⟩
   ·obtain⟨j,K,rfl⟩:=List.getElem_of_mem u;exact(x4Z.1 (h j K)).1
   ·exact(x4Z.1 (h j K)).2 _ (List.mem_take_iff_getElem.2 ⟨i,f6J,rfl⟩)
  ·rintro⟨Z,D⟩ j K;refine x4Z.2 ⟨Z _ (List.getElem_mem K),fun k G=>?_⟩;obtain⟨i,hi,rfl⟩:=List.mem_take_iff_getElem.1 G;exact D i j f6J K f6J
 unfold check;split
 ·omega
 ·next h =>
  split
  ·next x hx' =>
   refine⟨fun a=>absurd a (x3V _ _ _ hx'),fun a=>?_⟩;rw[u.2 (J.2 ⟨a.2.1,a.2.2.1⟩)]at hx';cases hx'
  ·grind
theorem z1D{a b}(g:right a=0)(Y:right b=0)(h:clash a b=false):clash b a=false:=by rw[y4W Y g];exact h
end Go.Proofs.YtbmckadcjdedcaaGreatDoor.Cn
namespace Go.Proofs.YtbmckadcjdedcaaGreatDoor.Cn
open Go.Proofs.Tryz
def x1y(f:Int)(s:List Rec):Prop:=(∀r∈s,right r=0/\fam r.kind=f)/\s.Pairwise fun a b=>a.hi<b.lo
def ahead(s:List Rec)(c:Int):Nat:=s.countP fun r=>decide (r.hi<c)
def near(s:List Rec)(c:Int):List Rec:=(s.drop (ahead s c)).take 1
theorem x4A{r}(h:fam r.kind=2\/fam r.kind=3):step r=1/\r.kind≠15/\r.kind≠4:=by
 have H:r.kind≠4:=by
  intro e;rw[e]at h;revert h;decide
 have p:r.kind≠15:=by
  intro e;rw[e]at h;revert h;decide
 exact⟨by unfold step;rw[if_neg H],p,H⟩
theorem x5f{r}(h:right r=0)(X:fam r.kind=2\/fam r.kind=3) c:speaks r c=true↔r.lo<=c/\c<=r.hi:=by
 obtain⟨Z,D,_⟩:=x4A X;rw[x0G h D,x8Z,Z];constructor
 ·rintro⟨a,b,_⟩;exact⟨a,b⟩
 ·omega
theorem y5S{f}(X:f=2\/f=3){s}(hr:∀r∈s,right r=0/\fam r.kind=f)(I:s.Pairwise fun a b=>clash a b=false)(U:s.Pairwise fun a b=>a.lo<=b.lo):x1y f s:=by
 refine⟨hr,?_⟩;have h:=List.pairwise_and_iff.2 ⟨I,U⟩;refine h.imp_of_mem fun{a b} ha hb ⟨h1,h2⟩=>?_;obtain⟨d,A⟩:=hr a ha;obtain⟨j,fb⟩:=hr b hb;have C:fam a.kind=2\/fam a.kind=3:=f6J;have D:fam b.kind=2\/fam b.kind=3:=f6J;obtain⟨_,F,_⟩:=x4A C;obtain⟨_,B,_⟩:=x4A D;obtain⟨_,M,_⟩:=x0n j B;refine Int.not_le.1 fun E=>?_;have:clash a b=true:=(x1V d j f6J F B).2 ⟨b.lo,(x5f d C _).2 ⟨h2,E⟩,(x5f j D _).2 ⟨Int.le_refl _,M⟩⟩;rw[h1]at this;cases this
theorem x9s{s c r}(h:r∈near s c):r∈s:=List.mem_of_mem_drop (List.mem_of_mem_take h)
theorem y9n{f:Int}(X:f=2\/f=3):∀{s:List Rec} (_:x1y f s) {c:Int} {r:Rec} (_:r∈s) (_:r.lo<=c) (_:c<=r.hi),r∈near s c
 | [],_,_,_,h,_,_=>m5j
 | a::s,ho,c,r,h,h1,h2=>by
  obtain⟨hr,L⟩:=ho;rw[List.pairwise_cons]at L;by_cases g:a.hi<c
  ·have F:r≠a:=by rintro rfl;omega
   have z:r∈s:=by
    rcases List.mem_cons.1 h with e|e
    ·exact absurd e F
    ·exact e
   have B:=y9n X (s:=s) ⟨fun x hx=>hr x (List.mem_cons_of_mem _ hx),L.2⟩ z h1 h2
   have e:ahead (a::s) c=ahead s c+1:=by
    unfold ahead;rw[List.countP_cons_of_pos M1V]
   unfold near;rw[e,List.drop_succ_cons];exact B
  ·have o:ahead (a::s) c=0:=by
    unfold ahead;rw[List.countP_eq_zero];intro x hx;rcases List.mem_cons.1 hx with rfl|A
    ·exact M1V
    ·have R:=L.1 x A;obtain⟨D,fx⟩:=hr x hx;obtain⟨_,C,_⟩:=x4A (r:=x) f6J;have:=x0n D C;simp;omega
   have e:r=a:=by
    rcases List.mem_cons.1 h with e|e
    ·exact e
    ·have:=L.1 r e;omega
   subst e;unfold near;rw[o];simp
theorem y5K{f s}(y:x1y f s) c:(check6 (near s c)).2=0:=by
 refine x0m.2 ⟨?_,fun r u=>(y.1 r (x9s u)).1,?_⟩
 ·unfold near;rw[List.length_take];omega
 ·have:(near s c).length<=1:=by unfold near;rw[List.length_take];omega
  match near s c,this with
  | [],_=>exact .nil
  | [_],_=>simp
  | _::_::_,h=>simp at h
theorem x9r{f}(X:f=2\/f=3){l s}(S:(check6 l).2=0)(y:x1y f s)(z:∀r,r∈s↔r∈l/\fam r.kind=f) c:hit (near s c) f c=hit l f c:=by
 have G:f≠10/\f≠0:=f6J;apply Option.ext;intro r;rw[x1z (y5K y c) G,x1z S G];constructor
 ·rintro⟨Z,D,R⟩;exact⟨((z r).1 (x9s Z)).1,D,R⟩
 ·rintro⟨Z,D,R⟩;have U:=(z r).2 ⟨Z,D⟩;have u:=y.1 r U;have:=(x5f u.1 f6J c).1 R;exact⟨y9n X y U this.1 this.2,D,R⟩
theorem z2C{l s}(S:(check6 l).2=0)(y:x1y 2 s)(z:∀r,r∈s↔r∈l/\fam r.kind=2) c:cls (near s c) c=cls l c:=by
 unfold cls;rw[x9r (.inl rfl) S y z]
theorem x9t{l s}(S:(check6 l).2=0)(y:x1y 3 s)(z:∀r,r∈s↔r∈l/\fam r.kind=3) c:opn (near s c) c=opn l c:=by
 unfold opn;rw[x9r (.inr rfl) S y z]
theorem y9o{l s}(S:(check6 l).2=0)(y:x1y 3 s)(z:∀r,r∈s↔r∈l/\fam r.kind=3) c:prim (near s c) c=prim l c:=by
 unfold prim;rw[x9t S y z,x9r (.inr rfl) S y z]
end Go.Proofs.YtbmckadcjdedcaaGreatDoor.Cn
namespace Go.Proofs.YtbmckadcjdedcaaGreatDoor
open Go.Proofs.Tryz
open Go.RowKit
theorem y5w x w:Calls prog 228 #[.int .i64 x] w fun e w'=>e=.returned (.bool false)/\w'=w:=by
 have J:(x != x)=false:=M7L;go_enter func228,ntmps228;exact t6u
theorem x2Z x y w:Calls prog 172 #[.int .i64 x,.int .i64 y] w fun e w'=>e=.returned (.int .i64 (Lib.compareInt x y))/\w'=w:=by
 have K:=O y5w;have T:∀r,r=Lib.compareInt x y->(Ending.returned (.int .i64 r)=.returned (.int .i64 (Lib.compareInt x y))/\w=w):=fun r h=>(by subst h;exact g9T);have I:x<y->Lib.compareInt x y=-1:=fun h=>(by unfold Lib.compareInt;rw[if_pos h]);have f:y<x->Lib.compareInt x y=1:=fun h=>(by unfold Lib.compareInt;rw[if_neg f6J,if_pos f6J]);have i:¬x<y->¬y<x->Lib.compareInt x y=0:=fun Z D=>(by unfold Lib.compareInt;rw[if_neg Z,if_neg f6J]);by_cases Z:x<y
 ·rw[I Z];exact S7a
 ·by_cases D:y<x
  ·rw[f D];exact S7a
  ·rw[i Z D];exact S7a
theorem y2A r vt c w:Calls prog 268 #[recV r vt,.int .i64 c] w fun e w'=>e=.returned (.int .i64 (Lib.compareInt r.hi c))/\Bw w w':=by
 have K:=O (fun W=>x2Z r.hi c W);unfold recV;have B:∀o,Bw w (w.alloc o):=fun o=>(b0r).alloc (l0r _) _;have I:=O B;go_enter func268,ntmps268;go_wp2_with fail;refine(V K _).mono ?_;rintro e Q ⟨rfl,rfl⟩;go_wp2;go_ret;exact⟨rfl,V I _⟩
def Bdry(s:List Rec)(c:Int)(lo hi:Nat):Prop:=(∀t,t<lo->(s.getD t Cn.none).hi<c)/\(∀t,hi<=t->t<s.length->¬(s.getD t Cn.none).hi<c)
def y1L(w:World)(s:List Rec)(c:Int)(e:Ending)(w':World):Prop:=∃(k:Nat) (b:Bool),e=.returned (.tuple #[.int .i64 k,.bool b])/\Below w.heap.size w w'/\k<=s.length/\Bdry s c k k
theorem y6n v s c w(N:Rcs w v s)(l:∀a b,a<=b->b<s.length->(s.getD b Cn.none).hi<c->(s.getD a Cn.none).hi<c) :
  Calls prog 267 #[v,.int .i64 c,.func (.func 268) #[] #[]] w (y1L w s c):=by
 have eg:∀F w,(callFunc 268 F).run prog w=.ok (.enter 268 F) w:=enters_of func268 f4y rfl;have KN:=O (fun r m W=>y2A r m c W);have HM:=O l;have ag:=N.1;rcases Nat.eq_zero_or_pos s.length with n0|n0
 ·obtain⟨R,M,rfl,_,_⟩:=N.shape;have H:y1L w s c (.returned (.tuple #[.int .i64 0,.bool false])) w:=⟨0,false,rfl,b0r,f6J,fun t Q=>f6J,fun t _ Q=>f6J⟩;rw[n0];go_enter func267,ntmps267;go_wp2;refine wp_loop_rounds 1 ?_;rw[rounds_succ];go_wp2;go_ret2;exact H
 ·obtain⟨b,P,M,rfl,ai,aj,q⟩:=N.place n0;have HC:Hid (∀i,i<s.length->∀W,Bw w W->RecAt W b (P+i*8) (s.getD i Cn.none)):=fun i hi W Y=>(q i hi).below Y;go_enter func267,ntmps267;go_wp2;go_loopw[9,10,11] (fun i j _ wr=>∃lo hi:Nat,i=.int .i64 lo/\j=.int .i64 hi/\lo<=hi/\hi<=s.length/\Bw w wr/\Hid (Bdry s c lo hi)) (fun i j _ _=>(intOf j).toNat-(intOf i).toNat)
  case atStart=>exact⟨0,s.length,rfl,rfl,f6J,f6J,b0r,⟨fun t Q=>f6J,fun t Z D=>f6J⟩⟩
  case round =>
   obtain⟨lo,hi,rfl,rfl,J,X,A,I⟩:=hrel;by_cases am:lo<hi
   ·have k:(lo+hi) / 2<s.length:=f6J;have U:=V HC ((lo+hi) / 2) k wr A;obtain⟨x,u,S,p,⟨m,g,ab⟩,x5,y,T⟩:=U;obtain⟨B,L,rfl,_,_⟩:=ab.shape;have KC:=O (V KN (s.getD ((lo+hi) / 2) Cn.none) (.slice B (s.getD ((lo+hi) / 2) Cn.none).to.length L) wr);unfold recV at KC
    have K:Hid ((s.getD ((lo+hi) / 2) Cn.none).hi<c->Bdry s c ((lo+hi) / 2+1) hi):=fun h =>
     ⟨fun t Q=>V HM t ((lo+hi) / 2) f6J k h,(V I).2⟩
    have f:Hid (¬(s.getD ((lo+hi) / 2) Cn.none).hi<c->Bdry s c lo ((lo+hi) / 2)):=fun h =>
     ⟨(V I).1,fun t Q af D=>h (V HM ((lo+hi) / 2) t Q af D)⟩
    have ae:∀z,Lib.compareInt z c<0↔z<c:=fun z=>(by unfold Lib.compareInt;split<;>(try split)<;>omega);have C:=ae (s.getD ((lo+hi) / 2) Cn.none).hi;generalize s.getD ((lo+hi) / 2) Cn.none=r at *;by_cases o:r.hi<c
    ·have G:=C.2 o;have HI:=O (V K o);generalize Lib.compareInt r.hi c=z at *;go_wp2_with fail;refine c0m KC fun w1 E=>?_;have n:=x0b A E;go_wp2
     go_roundw
     case rel=>exact⟨(lo+hi) / 2+1,hi,g2A,rfl,f6J,f6J,n,HI⟩
     case measure=>exact g7V
    ·have G:¬Lib.compareInt r.hi c<0:=fun h=>o (C.1 h);have HI:=O (V f o);generalize Lib.compareInt r.hi c=z at *;go_wp2_with fail;refine c0m KC fun w1 E=>?_;have n:=x0b A E;go_wp2
     go_roundw
     case rel=>exact⟨lo,(lo+hi) / 2,rfl,g2A,f6J,f6J,n,HI⟩
     case measure=>exact g7V
   ·obtain rfl:hi=lo:=f6J;have d:Hid (∀(b:Bool) W,Bw w W->y1L w s c (.returned (.tuple #[.int .i64 (hi:Int),.bool b])) W):=fun b W h=>⟨hi,b,rfl,h,X,V I⟩;by_cases hn:hi<s.length
    ·have U:=V HC hi hn wr A;obtain⟨x,u,S,p,⟨m,g,ab⟩,x5,y,T⟩:=U;obtain⟨B,L,rfl,_,_⟩:=ab.shape;have KC:=O (V KN (s.getD hi Cn.none) (.slice B (s.getD hi Cn.none).to.length L) wr);unfold recV at KC;generalize s.getD hi Cn.none=r at x u S p g x5 y T KC;generalize Lib.compareInt r.hi c=z at *;go_wp2_with fail;refine c0m KC fun w1 E=>?_;have n:=x0b A E;go_wp2;go_ret2;exact V d _ _ n
    ·clear HC KN HM I;go_wp2;go_ret2;exact V d _ _ A
theorem Rcs.sub{w ao len cap k s}(h:Rcs w (.slice ao len cap) s)(S:s.length=len)(G:k<len):∃b off,ao=some ⟨b,off,none⟩/\Rcs w (.slice (some ⟨b,off+k*8,none⟩) 1 (cap-k)) ((s.drop k).take 1):=by
 obtain⟨Z,D,R⟩:=h;rcases R with⟨rfl,B,J,N,z⟩|⟨b,off,J,N,A,z,I⟩
 ·simp at S;omega
 ·simp only[Value.slice.injEq]at N;obtain⟨rfl,e,rfl⟩:=N;have Q:((s.drop k).take 1).length=1:=P8P;refine⟨b,off,rfl,f6J,fun r u=>D r (List.mem_of_mem_drop (List.mem_of_mem_take u)),.inr ⟨b,off+k*8,cap-k,by rw[Q],f6J,f6J,fun i hi=>?_⟩⟩;obtain rfl:i=0:=f6J;have:=I k f6J;rw[show((s.drop k).take 1).getD 0 Cn.none=s.getD k Cn.none by simp[List.getD],Nat.zero_mul,Nat.add_zero];exact this
theorem y4J{s c}:∀{k:Nat},k<=s.length->Bdry s c k k->Cn.ahead s c=k:=by
 induction s with
 | nil=>intro k G _;simp at G;subst G;rfl
 | cons a s ih =>
  intro k G ⟨Z,D⟩
  cases k with
  | zero =>
   unfold Cn.ahead;rw[List.countP_eq_zero];intro x J;obtain⟨t,Q,rfl⟩:=List.getElem_of_mem J;have:=D t (Nat.zero_le _) Q;rw[show(a::s).getD t Cn.none=(a::s)[t]from by rw[List.getD_eq_getElem?_getD,List.getElem?_eq_getElem Q];rfl]at this;exact W2K
  | succ k =>
   have A:a.hi<c:=(by simpa using Z 0 f6J);have:Cn.ahead s c=k:=ih (by simpa using G) ⟨fun t Q=>by simpa using Z (t+1) f6J,fun t Q B=>by simpa using D (t+1) f6J P8P⟩;unfold Cn.ahead at this ⊢;rw[List.countP_cons_of_pos N6t,this]
theorem y0W{f}(X:f=2\/f=3){s}(y:Cn.x1y f s) c:∀a b,a<=b->b<s.length->(s.getD b Cn.none).hi<c->(s.getD a Cn.none).hi<c:=by
 intro a b A Y h;rcases Nat.lt_or_eq_of_le A with H|rfl
 ·have L:=List.pairwise_iff_getElem.1 y.2 a b f6J Y H;have eb:s.getD b Cn.none=s[b]:=(by grind);have ea:s.getD a Cn.none=s[a]:=(by grind);rw[eb]at h;rw[ea];obtain⟨j,fb⟩:=y.1 s[b] (List.getElem_mem Y);obtain⟨_,B,_⟩:=Cn.x4A (r:=s[b]) f6J;have:=Cn.x0n j B;omega
 ·exact h
def z4w(w0 w:World)(s:List Rec)(e:Ending)(w':World):Prop:=∃v,e=.returned v/\Rcs w0 v s/\Below w.heap.size w w'
theorem x9q v s c f(X:f=2\/f=3) w0 w(N:Rcs w0 v s)(t:Bw w0 w)(y:Cn.x1y f s)(I:Rune c):Calls prog 232 #[v,.int .i32 c] w (z4w w0 w (Cn.near s c)):=by
 have K:=O (y6n v s c w (N.below t) (y0W X y c));have J:=N.1;obtain⟨R,M,rfl,F,d⟩:=N.shape;obtain⟨l,j⟩:=I;have r:=O N;go_enter func232,ntmps232;go_wp2_with fail;refine(V K).mono ?_;rintro e Q ⟨k,b,rfl,E,G,Y⟩;have g:=y4J G Y;by_cases H:k<s.length
 ·obtain⟨C,P,rfl,D⟩:=(V r).sub rfl H;have T:z4w w0 w (Cn.near s c) (.returned (.slice (some ⟨C,P+k*8,none⟩) 1 (M-k))) Q:=⟨_,rfl,by unfold Cn.near;rw[g];exact D,E⟩;have W:min ((k:Int)+1) (s.length:Int)=(k:Int)+1:=f6J;have n:¬M-k=0:=f6J;exact U7H
 ·obtain rfl:k=s.length:=f6J;have T:∀B m,m<=9223372036854775807->z4w w0 w (Cn.near s c) (.returned (.slice B 0 m)) Q:=fun B m z=>⟨_,rfl,by unfold Cn.near;rw[g,List.drop_length];exact⟨M7L,fun _ h=>m5l,.inl ⟨rfl,B,_,rfl,z⟩⟩,E⟩;have W:min ((s.length:Int)+1) (s.length:Int)=(s.length:Int):=f6J;go_wp2
  all_goals
   go_ret;exact T _ _ f6J
structure Idx(l:List Rec)(w0:World)(cv ov:Value)(cs os:List Rec):Prop where
 rc:Rcs w0 cv cs
 ro:Rcs w0 ov os
 oc:Cn.x1y 2 cs
 oo:Cn.x1y 3 os
 mc:∀r,r∈cs↔r∈l/\Cn.fam r.kind=2
 mo:∀r,r∈os↔r∈l/\Cn.fam r.kind=3
 ok:(Cn.check6 l).2=0
theorem Idx.below{l w0 w1 cv ov cs os}(h:Idx l w0 cv ov cs os)(Y:Bw w0 w1):Idx l w1 cv ov cs os:={ h with rc:=h.rc.below Y,ro:=h.ro.below Y }
def xV(cv ov mv:Value):Value:=.agg #[cv,ov,mv]
theorem x8A l cs os cv ov mr c w(C:Glob w)(h:Idx l w cv ov cs os)(I:Rune c):Calls prog 179 #[xV cv ov (.map (some mr)),.int .i32 c] w (IntB w (Cn.cls l c)):=by
 obtain⟨P,Z,rfl,_,_⟩:=h.rc.shape;obtain⟨M,D,rfl,_,_⟩:=h.ro.shape;have Y:Bw w (w.alloc (.cells #[.slice P cs.length Z,.slice M os.length D,.map (some mr)] 125)):=(b0r).alloc (l0r _) _;have K:=O (x9q _ cs c 2 (.inl rfl) w _ h.rc Y h.oc I);have o:=O (fun W v' (Y:Bw w W) (N:Rcs w v' (Cn.near cs c))=>z7L v' (Cn.near cs c) c W (C.on Y) (N.below Y) I);rw[Cn.z2C h.ok h.oc h.mc]at o;generalize Cn.cls l c=z at *;unfold xV;go_enter func179,ntmps179;go_wp2_with fail;refine(V K).mono ?_;rintro e Q ⟨X,rfl,x,E⟩;have U:=O (V o Q X (x0b Y E) x);have F:=x0b Y E;obtain⟨B,A,rfl,_,_⟩:=x.shape;go_wp2_with fail;refine c0m U fun d s=>?_;have T:IntB w z (.returned (.int .i64 z)) d:=⟨rfl,x0b F s⟩;go_wp2;go_ret;exact T
theorem y1F l cs os cv ov mr c w0 w(C:Glob w0)(h:Idx l w0 cv ov cs os)(t:Bw w0 w)(I:Rune c):Calls prog 178 #[xV cv ov (.map (some mr)),.int .i32 c] w (OpB w0 w (Cn.opn l c)):=by
 obtain⟨P,Z,rfl,_,_⟩:=h.rc.shape;obtain⟨M,D,rfl,_,_⟩:=h.ro.shape;have Y:Bw w (w.alloc (.cells #[.slice P cs.length Z,.slice M os.length D,.map (some mr)] 125)):=(b0r).alloc (l0r _) _;have K:=O (x9q _ os c 3 (.inr rfl) w0 _ h.ro (t.trans (Y.mono t.size)) h.oo I);have o:=O (fun W v' (Y:Bw w W) (N:Rcs w0 v' (Cn.near os c))=>x8m v' (Cn.near os c) c w0 W ((C.on t).on Y) N (t.trans (Y.mono t.size)) I);rw[Cn.x9t h.ok h.oo h.mo]at o;generalize Cn.opn l c=z at *;unfold xV;go_enter func178,ntmps178;go_wp2_with fail;refine(V K).mono ?_;rintro e Q ⟨X,rfl,x,E⟩;have U:=O (V o Q X (x0b Y E) x);have F:=x0b Y E;obtain⟨B,A,rfl,_,_⟩:=x.shape;go_wp2_with fail;refine(V U).mono ?_;rintro e d ⟨j,rfl,G,s⟩;have T:OpB w0 w z (.returned j) d:=⟨j,rfl,G.imp id (fun h=>h.lower F.size),x0b F s⟩;exact U7G
theorem z0X l cs os cv ov mr c w(C:Glob w)(h:Idx l w cv ov cs os)(I:Rune c):Calls prog 180 #[xV cv ov (.map (some mr)),.int .i32 c] w (x0c w (Cn.prim l c).isSome):=by
 obtain⟨P,Z,rfl,_,_⟩:=h.rc.shape;obtain⟨M,D,rfl,_,_⟩:=h.ro.shape;have Y:Bw w (w.alloc (.cells #[.slice P cs.length Z,.slice M os.length D,.map (some mr)] 125)):=(b0r).alloc (l0r _) _;have K:=O (x9q _ os c 3 (.inr rfl) w _ h.ro Y h.oo I);have o:=O (fun W v' (Y:Bw w W) (N:Rcs w v' (Cn.near os c))=>primC v' (Cn.near os c) c W (C.on Y) (N.below Y) I);rw[Cn.y9o h.ok h.oo h.mo]at o;generalize Cn.prim l c=z at *;unfold xV;go_enter func180,ntmps180;go_wp2_with fail;refine(V K).mono ?_;rintro e Q ⟨X,rfl,x,E⟩;have U:=O (V o Q X (x0b Y E) x);have F:=x0b Y E;obtain⟨B,A,rfl,_,_⟩:=x.shape;go_wp2_with fail;refine c0m U fun d s=>?_;have T:x0c w z.isSome (.returned (.bool z.isSome)) d:=⟨rfl,x0b F s⟩;go_wp2;go_ret;exact T
theorem z9V l cs os cv ov mr w(C:Glob w)(h:Idx l w cv ov cs os):y1J 178 #[xV cv ov (.map (some mr))] #[] l w :=
 fun c W t I=>y1F l cs os cv ov mr c w W C h t I
theorem idx_len{l cs os cv ov w}(h:Idx l w cv ov cs os) c:(Cn.opn l c).length<=1000000000:=by
 rw[<- Cn.x9t h.ok h.oo h.mo];unfold Cn.opn;split
 ·split<;>simp
 ·cases hh:Cn.hit (Cn.near os c) 3 c with
  | none=>simp
  | some r =>
   obtain⟨Z,_,_⟩:=Cn.x2b hh;exact(h.ro.2.1 r (Cn.x9s Z)).len
theorem z0W l cs os cv ov mr c w(C:Glob w)(h:Idx l w cv ov cs os)(I:Rune c):Calls prog 177 #[.func (.func 178) #[xV cv ov (.map (some mr))] #[],.int .i32 c] w (x7t w (Cn.full l c)) :=
 fullK 178 _ _ l w (z9V l cs os cv ov mr w C h) (enters_of func178 f4x rfl) (idx_len h) c I
theorem hmeets_any b r x y w(Z:w.cell? ⟨b,1,none⟩=some (.int .i64 r.lo))(D:w.cell? ⟨b,2,none⟩=some (.int .i64 r.hi)):Calls prog 173 #[.int .i64 x,.int .i64 y,.pointer (some ⟨b,0,none⟩)] w fun e w'=>e=.returned (.bool (Cn.covers r x y))/\w'=w:=by
 unfold Cn.covers;by_cases C:r.lo<=y
 ·by_cases B:x<=r.hi
  ·rw[d0t ⟨C,B⟩];exact I3D
  ·rw[d0f (fun h=>B h.2)];have i:decide (x<=r.hi)=false:=d0f B;exact I3D
 ·rw[d0f (fun h=>C h.1)];exact I3D
def touches(r:Rec):Bool:=Cn.covers r 4352 4370||Cn.covers r 4449 4469||Cn.covers r 4520 4546||Cn.covers r 44032 55203
theorem x3Y r ao len cap w:Calls prog 129 #[recV r (.slice ao len cap)] w (x0c w (touches r)):=by
 have Y:Bw w (w.alloc (.cells #[.int .i64 r.kind,.int .i64 r.lo,.int .i64 r.hi,.int .i64 r.n,.slice ao len cap,.string r.name,.string r.other,.float .f64 r.wt] 67)):=(b0r).alloc (l0r _) _;have K:=O (fun x y=>hmeets_any w.heap.size r x y (w.alloc (.cells #[.int .i64 r.kind,.int .i64 r.lo,.int .i64 r.hi,.int .i64 r.n,.slice ao len cap,.string r.name,.string r.other,.float .f64 r.wt] 67)) M7L M7L);have D:∀F w,(callFunc 173 F).run prog w=.ok (.enter 173 F) w:=enters_of func173 f4x rfl;have j:∀(fn:Fn) (first cap:Array Value) (w:World),(Instr.makeFunc fn first cap).run prog w=.ok (.func fn first cap) w:=fun _ _ _ _=>rfl;have B:=O Y;have H:=O (V K 4352 4370);have o:=O (V K 4449 4469);have G:=O (V K 4520 4546);have k:=O (V K 44032 55203);have p:touches r=(Cn.covers r 4352 4370||Cn.covers r 4449 4469||Cn.covers r 4520 4546||Cn.covers r 44032 55203):=rfl;rw[p];generalize Cn.covers r 4352 4370=c1,Cn.covers r 4449 4469=c2,Cn.covers r 4520 4546=c3,Cn.covers r 44032 55203=c4 at *;unfold recV;cases c1
 ·cases c2
  ·cases c3
   ·rw[(M7L:(false||false||false||c4)=c4)];go_enter func129,ntmps129;go_wp2_with fail;refine(V H).mono ?_;rintro e Q ⟨rfl,rfl⟩;go_wp2_with fail;refine(V o).mono ?_;rintro e Q ⟨rfl,rfl⟩;go_wp2_with fail;refine(V G).mono ?_;rintro e Q ⟨rfl,rfl⟩;go_wp2_with fail;refine(V k).mono ?_;exact R8n
   ·rw[(M7L:(false||false||true||c4)=true)];go_enter func129,ntmps129;go_wp2_with fail;refine(V H).mono ?_;rintro e Q ⟨rfl,rfl⟩;go_wp2_with fail;refine(V o).mono ?_;rintro e Q ⟨rfl,rfl⟩;go_wp2_with fail;refine(V G).mono ?_;exact R8n
  ·rw[(M7L:(false||true||c3||c4)=true)];go_enter func129,ntmps129;go_wp2_with fail;refine(V H).mono ?_;rintro e Q ⟨rfl,rfl⟩;go_wp2_with fail;refine(V o).mono ?_;exact R8n
 ·rw[(M7L:(true||c2||c3||c4)=true)];go_enter func129,ntmps129;go_wp2_with fail;refine(V H).mono ?_;exact R8n
def makes(a b:Int):Bool:=(Cn.jl a&&Cn.jv b)||(Cn.syl a&&decide ((a-44032)%28=0)&&Cn.jt b)
theorem y9d a b w:Calls prog 130 #[.int .i32 a,.int .i32 b] w fun e w'=>e=.returned (.bool (makes a b))/\w'=w:=by
 have B:=O (x6F a w);by_cases U:Cn.syl a=true
 ·have i:44032<=a/\a<=55203:=U2E;rw[U]at B;have H:=O (y4s a w i);have o:=O (x3A b 4520 4546 w)
  have e:makes a b=(decide ((a-44032)%28=0)&&decide (4520<=b/\b<=4546)):=by
   unfold makes;rw[U,show Cn.jl a=false by unfold Cn.jl;exact d0f f6J];simp[Cn.jt]
  rw[e];generalize decide (4520<=b/\b<=4546)=z at *;by_cases A:(a-44032)%28=0
  ·rw[d0t A,Bool.true_and];rw[A]at H;exact m5b
  ·rw[d0f A,Bool.false_and];generalize(a-44032)%28=t at *;have D:(t==0)=false:=b0f A;exact w1Z
 ·have i:Cn.syl a=false:=G5Z;rw[i]at B;have H:=O (x3A a 4352 4370 w);have o:=O (x3A b 4449 4469 w)
  have e:makes a b=(decide (4352<=a/\a<=4370)&&decide (4449<=b/\b<=4469)):=by
   unfold makes;rw[i];simp[Cn.jl,Cn.jv]
  rw[e];generalize decide (4352<=a/\a<=4370)=y,decide (4449<=b/\b<=4469)=z at *;cases y
  ·rw[Bool.false_and];exact w1Z
  ·rw[Bool.true_and];exact m5b
namespace Cn
theorem y2R{r}(h:right r=0)(F:r.kind=6):1<=r.n/\r.n<=254:=by
 have X:=x0v h;unfold right at h;rw[if_neg X,if_neg f6J]at h;have I:=x1j h;rw[Bool.and_eq_true,if_neg f6J,if_neg f6J,if_neg f6J,if_neg f6J,if_neg f6J,if_pos F]at I;have D:=I.2;simp only[Bool.and_eq_true]at D;exact o0d D.2
theorem z4V{l}(h:(check6 l).2=0) c:0<=cls l c:=by
 unfold cls
 cases hh:hit l 2 c with
 | none=>simp
 | some r =>
  obtain⟨Z,D,_⟩:=x2b hh;have u:=(x1J h).2 r Z
  have G:r.kind=6:=by
   revert D;exact r2C
  have:=y2R u G;simp only;omega
def x2m(l:List Rec):Int->List Int->Bool
 | _,[]=>false
 | a,b::r=>decide (cls l b≠0/\cls l b<a)||x2m l (cls l b) r
theorem y7Z(l:List Rec):∀(a:Int) (r:List Int),fallsA l (a::r)=x2m l (cls l a) r
 | _,[]=>rfl
 | a,b::r=>by rw[fallsA,x2m,y7Z l b r]
theorem z5n{l:List Rec}(h:(check6 l).2=0):∀x:List Int,fallsA l x=x2m l 0 x
 | []=>rfl
 | a::r=>by
  rw[y7Z,x2m,d0f (fun q=>by have:=z4V h a;exact f6J),Bool.false_or]
theorem y2h{l a}{x:List Int}{k}(G:k<x.length):x2m l a (x.drop k)=(decide (cls l (x.getD k 0)≠0/\cls l (x.getD k 0)<a)||x2m l (cls l (x.getD k 0)) (x.drop (k+1))):=by
 rw[List.drop_eq_getElem_cons G,x2m];exact w7Y
def wfull(l:List Rec)(c:Int):Int:=if(full l c).2≠0 then(full l c).2 else if fallsA l (full l c).1 then 75 else 0
end Cn
theorem y1D l cs os cv ov mr c w(hg:Glob w)(h:Idx l w cv ov cs os)(I:Rune c):Calls prog 131 #[xV cv ov (.map (some mr)),.int .i32 c] w (IntB w (Cn.wfull l c)):=by
 obtain⟨P,Z,rfl,_,_⟩:=h.rc.shape;obtain⟨M,D,rfl,_,_⟩:=h.ro.shape;have Y:Bw w (w.alloc (.cells #[.slice P cs.length Z,.slice M os.length D,.map (some mr)] 125)):=(b0r).alloc (l0r _) _;have K:=O (z0W l cs os _ _ mr c _ (hg.on Y) (h.below Y) I);have KC:=O (fun W x (t:Bw w W) (hx:Rune x)=>x8A l cs os _ _ mr x W (hg.on t) (h.below t) hx)
 have r:Hid (∀W,Below (w.heap.size+1) (w.alloc (.cells #[.slice P cs.length Z,.slice M os.length D,.map (some mr)] 125)) W->W.cell? ⟨w.heap.size,0,none⟩=some (.slice P cs.length Z)/\W.cell? ⟨w.heap.size,1,none⟩=some (.slice M os.length D)/\W.cell? ⟨w.heap.size,2,none⟩=some (.map (some mr))):=fun W t=>f8G
 have j:∀(fn:Fn) (first ab:Array Value) (w:World),(Instr.makeFunc fn first ab).run prog w=.ok (.func fn first ab) w:=fun _ _ _ _=>rfl;have s:=Cn.z5n h.ok (Cn.full l c).1;have aw:=Cn.x4k l c;have ar:Hid ((Cn.full l c).2≠0->Cn.wfull l c=(Cn.full l c).2):=fun q=>if_pos q;have u:Hid ((Cn.full l c).2=0->Cn.wfull l c=if Cn.x2m l 0 (Cn.full l c).1 then 75 else 0):=fun q=>(by unfold Cn.wfull;rw[if_neg f6J,s]);generalize Cn.full l c=f,Cn.wfull l c=R at *;obtain⟨L,er⟩:=f;simp only at ar u aw;unfold xV at *;have az:(w.alloc (.cells #[.slice P cs.length Z,.slice M os.length D,.map (some mr)] 125)).heap.size=w.heap.size+1:=M7L;go_enter func131,ntmps131;go_wp2_with fail;refine(V K).mono ?_;rintro e w1 ⟨v1,rfl,X,aj⟩;simp only at X;rw[az]at aj X;have g:Bw w w1:=Y.trans (aj.mono f6J);by_cases d:er=0
 ·subst d;have hR:=V u rfl;rcases Nat.eq_zero_or_pos L.length with n0|n0
  ·obtain rfl:L=[]:=List.eq_nil_of_length_eq_zero n0
   have T:IntB w R (.returned (.int .i64 0)) w1:=by
    rw[hR];exact⟨rfl,g⟩
   obtain⟨ao,ab,rfl,_,_⟩:=X.sk.shape;exact N2V
  ·have A:=X.sk;obtain⟨xb,aA,aB,rfl,aC,aD,o⟩:=A.place n0
   have C:Hid (∀W,Below (w.heap.size+1) (w.alloc (.cells #[.slice P cs.length Z,.slice M os.length D,.map (some mr)] 125)) W->Bw w1 W->∀i,i<L.length->W.cell? ⟨xb,aA+i,none⟩=some (.int .i32 (L.getD i 0))):=fun W _ t i hi=>by
    rw[t.cell (x0a (o i hi))];exact o i hi
   have y:=O (fun k hk=>x1c A (i:=k) hk);have Q:=O (fun a k hk=>Cn.y2h (l:=l) (a:=a) (x:=L) (k:=k) hk);have ag:=O hR;have U:=O aj;have p:=O g;go_wp2;go_loopw[7,9,10,23] (fun a _ _ i wr=>∃(k:Nat) (z:Int),i=.int .i64 k/\a=.int .i64 z/\k<=L.length/\Hid (Cn.x2m l 0 L=Cn.x2m l z (L.drop k))/\Hid (Bw w1 wr)) (fun _ _ _ i _=>L.length-(intOf i).toNat)
   case atStart=>exact⟨0,0,rfl,rfl,f6J,V0q,b0r⟩
   case round =>
    obtain⟨k,z,rfl,rfl,hk,aq,S⟩:=hrel;have N:=V S;have E:Below (w.heap.size+1) (w.alloc (.cells #[.slice P cs.length Z,.slice M os.length D,.map (some mr)] 125)) wr:=(V U).trans (N.mono (by have:=(V U).size;simp at this;exact f6J));have G:Bw w wr:=x0b (V p) N;by_cases H:k<L.length
    ·have a0:=V C wr E N k H;obtain⟨y0,y1,y2⟩:=V r wr E;have KK:=O (V KC wr (L.getD k 0) G (V y k H));have J:=V Q z k H;rw[<- V aq]at J;have ai:=O J;generalize Cn.cls l (L.getD k 0)=n at *;generalize L.getD k 0=x at *;go_wp2_with fail;refine c0m KK fun w2 F=>?_;have v:Bw w1 w2:=x0b (V S) F;have af:Bw w w2:=x0b (V p) v;by_cases B:n≠0/\n<z
     ·have T:IntB w R (.returned (.int .i64 75)) w2:=by
       have e1:=V ag;rw[V ai,d0t B,Bool.true_or]at e1;rw[e1];exact⟨rfl,af⟩
      obtain⟨b,ay⟩:=B;have m:(n != 0)=true:=M5N;exact U7J
     ·have ae:Hid (Cn.x2m l 0 L=Cn.x2m l n (L.drop (k+1))):=by
       show _=_;rw[V ai,d0f B,Bool.false_or]
      have am:=O v;by_cases ay:n<z
      ·have b:n=0:=by
        rcases Int.decEq n 0 with h|h
        ·exact absurd ⟨h,ay⟩ B
        ·exact h
       subst b;go_wp2
       go_roundw
       case rel=>exact⟨k+1,0,g2A,rfl,f6J,ae,am⟩
       case measure=>exact g7V
      ·clear C y Q ag U p KC r ai S v af B;go_wp2
       go_roundw
       case rel=>exact⟨k+1,n,g2A,rfl,f6J,ae,am⟩
       case measure=>exact g7V
    ·obtain rfl:k=L.length:=by omega
     have T:IntB w R (.returned (.int .i64 0)) wr:=by
      have e1:=V ag;rw[V aq,List.drop_length]at e1;rw[e1];exact⟨rfl,G⟩
     exact U7J
 ·obtain rfl:=V ar d;have T:IntB w R (.returned (.int .i64 R)) w1:=⟨rfl,g⟩;have m:(R != 0)=true:=(by simp[d]);obtain⟨ao,ab,rfl,_,_⟩:=X.sk.shape;exact U7J
