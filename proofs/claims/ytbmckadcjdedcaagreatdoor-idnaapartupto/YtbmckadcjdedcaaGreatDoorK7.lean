/- Lemmas. -/
import Derived.Test.YtbmckadcjdedcaaGreatDoorK5
import Derived.Defers
import Derived.Recover
import Derived.Shelf.SlSortCmp.WholeK
set_option maxHeartbeats 4000000
set_option maxRecDepth 8000
namespace Go.Proofs.YtbmckadcjdedcaaGreatDoor
open Go.Proofs.Tryz
open Go.RowKit
section
variable{p:Prop}
theorem R8h(h:p:=by
 unfold fam at h;split at h
 ·omega
 ·omega):p:=h
theorem r2C(h:p:=by
 unfold fam;split
 ·intro e;omega
 ·omega):p:=h
theorem r2m(h:p:=by simp[Act.eval,Array.replicate]):p:=h
theorem U4L(h:p:=by go_enter func130,ntmps130;go_wp2_with fail;refine c0m J fun I B=>?_;subst I;go_wp2_with fail;refine c0m o fun I B=>?_;subst I;go_wp2_with fail;refine c0m g fun I B=>?_;subst I;go_wp2;go_ret;exact⟨rfl,rfl⟩):p:=h
theorem v6g(h:p:=by push_cast;rw[Int.add_mul];exact f6J):p:=h
theorem s8h(h:p:=by rw[h];exact e8M):p:=h
theorem I3D(h:p:=by go_enter func173,ntmps173;exact t6u):p:=h
theorem w4I(h:p:=by go_wp2;go_ret;exact⟨rfl,V t⟩):p:=h
theorem E0A(h:p:=by
 constructor
 ·intro h;cases h
 ·rintro⟨k,_,D,_⟩;have:=Int.mul_nonneg (f6J:(0:Int)<=k) X;omega):p:=h
theorem w8p(h:p:=by show 0<1;exact f6J):p:=h
theorem n2X(h:p:=by go_enter func172,ntmps172;go_wp2_with(go_at_call 228;refine(V K _ _).mono ?_;rintro e I ⟨rfl,rfl⟩);go_ret;exact g9T):p:=h
theorem s2a(h:p:=by
 rcases Int.lt_or_le 0 j with Z | Z
 ·have:s*1<=s*j:=Int.mul_le_mul_of_nonneg_left f6J f6J;omega
 ·have:=Int.mul_nonpos_of_nonneg_of_nonpos (f6J:0<=s) Z;omega):p:=h
theorem s9L(h:p:=by go_enter func130,ntmps130;go_wp2_with fail;refine c0m J fun I B=>?_;subst I;go_wp2_with fail;refine c0m o fun I B=>?_;subst I;go_wp2;go_ret;exact⟨rfl,rfl⟩):p:=h
theorem R6d(h:p:=by simpa using K):p:=h
theorem P5h(h:p:=by simpa using H):p:=h
theorem I1M(h:p:=by simp[List.getD]):p:=h
theorem M3m(h:p:=by rintro e I ⟨rfl,rfl⟩;exact w4I):p:=h
theorem R5x(h:p:=by
 refine⟨?_,?_,?_⟩
 all_goals
  rw[U.cell (by show w.heap.size<_;exact f6J)];simp):p:=h
end
theorem z9H w:(Instr.typeAssert .nilIface 20 29 true).run prog w=.ok (.tuple #[.int .i64 0,.bool false]) w:=f4x
theorem ta_ok n w:(Instr.typeAssert (.iface 29 (.int .i64 n)) 20 29 true).run prog w=.ok (.tuple #[.int .i64 n,.bool true]) w:=f4x
theorem y4E p q w:CallsD prog 229 #[.pointer (some p),.pointer (some q)] .returning w fun e o w'=>e=.returned (.tuple #[])/\o=.returning/\w'=w:=by
  refine callsD_of_wpS func229 rfl fun c₀ P W=>?_;apply wpS_seq;apply wpS_region;simp[wpOpsS,go_sem,recoverD,W,ntmps229,Exit.thenS,z9H];apply wpS_seq;apply wpS_region;simp[wpOpsS,go_sem,Exit.thenS];refine wpS_cond (t:=false) r2m ?_;simp only[Bool.false_eq_true,if_false];refine wpS_of_wp (wp_skip ?_);cases c₀;simp_all [bodyPostS,results,Tryz.results229]
theorem y4D p q n x y(A:List PanicEntry) w(L:w.cell? p=some x)(C:w.frozen? p=false)(m:(w.setCell p (.slice none 0 0)).cell? q=some y)(B:(w.setCell p (.slice none 0 0)).frozen? q=false) :
    CallsD prog 229 #[.pointer (some p),.pointer (some q)] (.panicking ({ v:=.iface 29 (.int .i64 n),recovered:=false }::A)) w fun e o w' =>
      e=.returned (.tuple #[])/\o=.panicking ({ v:=.iface 29 (.int .i64 n),recovered:=true }::A)/\w'=(w.setCell p (.slice none 0 0)).setCell q (.int .i64 n):=by
  refine callsD_of_wpS func229 rfl fun c₀ P W=>?_;apply wpS_seq;apply wpS_region;simp[wpOpsS,go_sem,recoverD,W,ntmps229,Exit.thenS,ta_ok];apply wpS_seq;apply wpS_region;simp[wpOpsS,go_sem,Exit.thenS];refine wpS_cond (t:=true) r2m ?_;simp only[if_true];apply wpS_region;simp[wpOpsS,go_sem,L,C,m,B,bodyPostS,results,Tryz.results229]
def fw(w:World)(fv:Value):World:=((w.alloc (.cells #[.slice none 0 0] 40)).alloc (.cells #[.int .i64 0] 29)).alloc (.cells #[fv,.slice none 0 0,.slice none 0 0] 303)
theorem z8n w fv:(fw w fv).heap[w.heap.size]?=some (.cells #[.slice none 0 0] 40 (0,0))/\(fw w fv).heap[w.heap.size+1]?=some (.cells #[.int .i64 0] 29 (0,0))/\(fw w fv).heap[w.heap.size+2]?=some (.cells #[fv,.slice none 0 0,.slice none 0 0] 303 (0,0))/\(fw w fv).heap.size=w.heap.size+3:=by
  have e:(fw w fv).heap=((w.heap.push (.cells #[.slice none 0 0] 40 (0,0))).push (.cells #[.int .i64 0] 29 (0,0))).push (.cells #[fv,.slice none 0 0,.slice none 0 0] 303 (0,0)):=rfl;rw[e];refine⟨?_,?_,?_,M7K⟩
  · grind
  · grind
  · rw[Array.getElem?_push];simp
theorem z8o w fv:Wk w.heap.size (fw w fv) (w.heap.size+2) fv [] [] (.slice none 0 0) (.slice none 0 0) :=
  ⟨(z8n w fv).2.2.1,f6J,Ok.nil _ _ _ _,Ok.nil _ _ _ _,fun g h=>by simp[Value.ownBlock]at h⟩
theorem y3B w fv:Bw w (fw w fv):=(((b0r).alloc (l0r _) _).alloc M7M _).alloc P8P _
theorem y3A{w w1 fv v out n}(U:Frm (fw w fv) w1 (w.heap.size+2) (.slice none 0 0) (.slice none 0 0))(N:Ok .i32 21 w1 w.heap.size v out) :
    w1.heap[w.heap.size]?=some (.cells #[.slice none 0 0] 40 (0,0))/\w1.heap[w.heap.size+1]?=some (.cells #[.int .i64 0] 29 (0,0)) /\
    (∀u,((w1.setCell ⟨w.heap.size,0,none⟩ u).setCell ⟨w.heap.size+1,0,none⟩ (.int .i64 n)).heap[w.heap.size]?=some (.cells #[u] 40 (0,0)) /\
     ((w1.setCell ⟨w.heap.size,0,none⟩ u).setCell ⟨w.heap.size+1,0,none⟩ (.int .i64 n)).heap[w.heap.size+1]?=some (.cells #[.int .i64 n] 29 (0,0)) /\
     (w1.setCell ⟨w.heap.size,0,none⟩ u).heap[w.heap.size+1]?=some (.cells #[.int .i64 0] 29 (0,0)) /\
     Bw w ((w1.setCell ⟨w.heap.size,0,none⟩ u).setCell ⟨w.heap.size+1,0,none⟩ (.int .i64 n)) /\
     Ok .i32 21 ((w1.setCell ⟨w.heap.size,0,none⟩ u).setCell ⟨w.heap.size+1,0,none⟩ (.int .i64 n)) w.heap.size v out):=by
  obtain⟨E,I,P,d⟩:=z8n w fv;have l:w1.heap[w.heap.size]?=some (.cells #[.slice none 0 0] 40 (0,0)):=(by rw[U.keep _ f6J f6J V3H V3H];exact E);have B:w1.heap[w.heap.size+1]?=some (.cells #[.int .i64 0] 29 (0,0)):=(by rw[U.keep _ f6J f6J V3H V3H];exact I);refine⟨l,B,fun u=>?_⟩;have y:(w1.setCell ⟨w.heap.size,0,none⟩ u).heap[w.heap.size+1]?=some (.cells #[.int .i64 0] 29 (0,0)):=(by rw[x0g _ f6J];exact B);refine⟨?_,?_,y,?_,?_⟩
  · rw[x0g _ f6J,x0f l];rfl
  · rw[x0f y];rfl
  · have Q:Bw w w1:=(y3B w fv).trans (U.below (z8o w fv) f6J)
    exact x0d (x0d Q (l0r _) u) f6J _
  · refine N.keep fun g Z=>?_
    obtain⟨t,T⟩:=y9o N Z;have q:g≠w.heap.size:=fun e=>(by subst e;rw[l]at T;simp at T);have M:g≠w.heap.size+1:=fun e=>(by subst e;rw[B]at T;simp at T);rw[x0g _ M,x0g _ q]
theorem fullK g fa cb rs w(b:y1z g fa cb rs w)(Z:∀args w,(callFunc g args).run prog w=.ok (.enter g args) w)(s:∀c,(Cn.opn rs c).length<=1000000000) c(T:Rune c) :
    Calls prog 177 #[.func (.func g) fa cb,.int .i32 c] w (x7r w (Cn.full rs c)):=by
  have K:=O (z1E g fa cb rs w b Z s 16 [] c [] (fw w (.func (.func g) fa cb)) (w.heap.size+2) _ _ M7L M7L T (y3B w _) (z8o w _));have H:∀(fn:Fn) (first M:Array Value) (w:World),(Instr.makeFunc fn first M).run prog w=.ok (.func fn first M) w:=fun _ _ _ _=>rfl;have q:=Cn.x4k rs c;have G:=Cn.y4h rs 16 [] c [];change Hid (Calls _ _ _ _ (x5C _ _ _ _ _ _ _ (Cn.full rs c)))at K;change (Cn.full rs c).2≠0->(Cn.full rs c).1=[]at G;generalize Cn.full rs c=r at *;have HE:Hid (r.2≠0->r.1=[]):=G;go_enter_defers func177,ntmps177;go_wp2_with fail;refine(V K).mono ?_;rintro P I ⟨U,⟨F,i⟩ | ⟨h0,rfl,C,J,N,d,ab⟩⟩
  · unfold Gave at i
    subst i;obtain⟨l,B,Q⟩:=y3A (n:=r.2) U (Ok.nil _ _ _ _);obtain⟨p,y,W,S,k⟩:=Q (.slice none 0 0);have Y:x7r w r (.returned (.tuple #[.slice none 0 0,.int .i64 r.2])) ((I.setCell ⟨w.heap.size,0,none⟩ (.slice none 0 0)).setCell ⟨w.heap.size+1,0,none⟩ (.int .i64 r.2)):=⟨_,rfl,by rw[V HE F];exact k,S⟩;have x:=cell_of (j:=0) p w8p;have a:=cell_of (j:=0) y w8p;refine leaves_cons (f:=229) (args:=#[.pointer (some ⟨w.heap.size,0,none⟩),.pointer (some ⟨w.heap.size+1,0,none⟩)]) M7L (by simp[go_sem]) ?_;refine(y4D ⟨w.heap.size,0,none⟩ ⟨w.heap.size+1,0,none⟩ r.2 _ _ [] I (cell_of (j:=0) l w8p) (x0e l) (cell_of (j:=0) W w8p) (x0e W)).mono ?_;rintro e o w2 ⟨rfl,rfl,rfl⟩;generalize(I.setCell ⟨w.heap.size,0,none⟩ (.slice none 0 0)).setCell ⟨w.heap.size+1,0,none⟩ (.int .i64 r.2)=D at *;have v:D.cell? ⟨w.heap.size,0,none⟩=some (.slice none 0 0):=x;have z:D.cell? ⟨w.heap.size+1,0,none⟩=some (.int .i64 r.2):=a;simp[Leaves,settle,results,Tryz.results177,go_sem,v,z];exact Y
  · obtain⟨R,M,rfl,_,_⟩:=N.e.sk.shape
    obtain⟨l,B,Q⟩:=y3A (n:=0) U N.e;obtain⟨p,y,W,S,k⟩:=Q (.slice R r.1.length M);have Y:x7r w r (.returned (.tuple #[.slice R r.1.length M,.int .i64 0])) ((I.setCell ⟨w.heap.size,0,none⟩ (.slice R r.1.length M)).setCell ⟨w.heap.size+1,0,none⟩ (.int .i64 0)):=⟨_,by rw[h0],k,S⟩;have X:I.cell? ⟨w.heap.size+1+1,2,none⟩=some (.slice R r.1.length M):=cell_of (j:=2) N.blk U4t;have E:I.cell? ⟨w.heap.size,0,none⟩=some (.slice none 0 0):=cell_of (j:=0) l w8p;have m:I.cell? ⟨w.heap.size+1,0,none⟩=some (.int .i64 0):=cell_of (j:=0) B w8p;have f0:=x0e (j:=0) l;have t:=x0e (j:=0) B;have L:(I.setCell ⟨w.heap.size,0,none⟩ (.slice R r.1.length M)).cell? ⟨w.heap.size+1,0,none⟩=some (.int .i64 0):=cell_of (j:=0) W w8p;have qf:=x0e (j:=0) W;have x:((I.setCell ⟨w.heap.size,0,none⟩ (.slice R r.1.length M)).setCell ⟨w.heap.size+1,0,none⟩ (.int .i64 0)).cell? ⟨w.heap.size,0,none⟩=some (.slice R r.1.length M):=cell_of (j:=0) p w8p;have a:((I.setCell ⟨w.heap.size,0,none⟩ (.slice R r.1.length M)).setCell ⟨w.heap.size+1,0,none⟩ (.int .i64 0)).cell? ⟨w.heap.size+1,0,none⟩=some (.int .i64 0):=cell_of (j:=0) y w8p;have u:=O x;have A:=O a;go_wp2;refine leaves_cons (f:=229) (args:=#[.pointer (some ⟨w.heap.size,0,none⟩),.pointer (some ⟨w.heap.size+1,0,none⟩)]) M7L (by simp[go_sem]) ?_;refine(y4E ⟨w.heap.size,0,none⟩ ⟨w.heap.size+1,0,none⟩ _).mono ?_;rintro e o w2 ⟨rfl,rfl,rfl⟩;have x:=V u;have a:=V A;simp[Leaves,settle,results,Tryz.results177,go_sem,x,a];exact Y
end Go.Proofs.YtbmckadcjdedcaaGreatDoor
namespace Go.Proofs.YtbmckadcjdedcaaGreatDoor.Cn
open Go.Proofs.Tryz
def x8V(lo hi s x:Int):Prop:=lo<=x/\x<=hi/\s∣x-lo
theorem y4c{lo1 hi1 s1 lo2 hi2 s2 c0:Int}{N:Nat}(Z:0<s1)(D:0<s2)(y:s2<=N)(H:lo1<=c0)(Q:lo2<=c0)(hd:s1∣c0-lo1)(R:∀x,lo1<=x->lo2<=x->s1∣x-lo1->c0<=x) :
  (∃x,x8V lo1 hi1 s1 x/\x8V lo2 hi2 s2 x)↔∃k:Nat,k<N/\c0+k*s1<=hi1/\c0+k*s1<=hi2/\s2∣c0+k*s1-lo2:=by
 constructor
 ·rintro⟨x,⟨I,P,d⟩,b1,m,L⟩;have a:=R x I b1 d
  obtain⟨j,K⟩:s1∣x-c0:=by
   have:=Int.dvd_sub d hd;rwa [(f6J:x-lo1-(c0-lo1)=x-c0)]at this
  have G:0<=j:=by
   rcases Int.lt_or_le j 0 with h | h
   ·have:=Int.mul_neg_of_pos_of_neg Z h;omega
   ·exact h
  have C:=Int.emod_nonneg j (f6J:s2≠0);have F:=Int.emod_lt_of_pos j D
  have A:j%s2<=j:=by
   have:=Int.emod_add_mul_ediv j s2;have:=Int.mul_nonneg (f6J:0<=s2) (Int.ediv_nonneg G (f6J:0<=s2));omega
  have v:j%s2*s1<=x-c0:=by
   rw[K,Int.mul_comm s1 j];exact Int.mul_le_mul_of_nonneg_right A f6J
  refine⟨(j%s2).toNat,f6J,?_,?_,?_⟩
  ·rw[Int.toNat_of_nonneg C];omega
  ·rw[Int.toNat_of_nonneg C];omega
  ·rw[Int.toNat_of_nonneg C];have e:c0+j%s2*s1-lo2=(x-lo2)-(j-j%s2)*s1:=(by grind);rw[e];refine Int.dvd_sub L (Int.dvd_mul_of_dvd_left ?_);exact Int.dvd_self_sub_emod
 ·rintro⟨k,_,B,E,J⟩;have M:0<=(k:Int)*s1:=Int.mul_nonneg f6J f6J;refine⟨c0+k*s1,⟨f6J,B,?_⟩,f6J,E,J⟩;rw[(f6J:c0+(k:Int)*s1-lo1=(c0-lo1)+k*s1)];exact Int.dvd_add hd (Int.dvd_mul_left _ _)
theorem x0J{r}(h:right r=0)(G:r.kind≠15) c:speaks r c=true↔x8V r.lo r.hi (step r) c:=by
 have X:=right_step h;have L:=x0o h G;unfold speaks x8V;rw[decide_eq_true_iff];constructor
 ·omega
 ·omega
theorem x7S(b:Rec){s hi:Int}(X:0<=s):∀(n:Nat) (c:Int),clashA b s hi n c=true↔∃k:Nat,k<n/\c+k*s<=hi/\speaks b (c+k*s)=true
 | 0,c=>by simp[clashA]
 | n+1,c=>by
  rw[clashA];split
  ·next hc =>
   rw[Bool.or_eq_true,x7S b X n];constructor
   ·rintro(h | ⟨k,Z,D,R⟩)
    ·exact⟨0,f6J,by simpa using hc,by simpa using h⟩
    ·refine⟨k+1,f6J,?_,?_⟩
     ·rw[(v6g:c+((k+1:Nat):Int)*s=c+s+k*s)];exact D
     ·rw[(v6g:c+((k+1:Nat):Int)*s=c+s+k*s)];exact R
   ·rintro⟨k,Z,D,R⟩
    cases k with
    | zero=>left;simpa using R
    | succ k =>
     right;rw[(v6g:c+((k+1:Nat):Int)*s=c+s+k*s)]at D R;exact⟨k,f6J,D,R⟩
  ·next hc =>
   exact E0A
theorem y8d{lo1 lo2 s}(h:0<s){c0:Int}(T:c0=if lo1<lo2 then lo1+(lo2-lo1+s-1) / s*s else lo1) :
  lo1<=c0/\lo2<=c0/\s∣c0-lo1/\∀x,lo1<=x->lo2<=x->s∣x-lo1->c0<=x:=by
 by_cases S:lo1<lo2
 ·rw[if_pos S]at T;have e:=Int.emod_add_mul_ediv (lo2-lo1+s-1) s;have v:=Int.emod_nonneg (lo2-lo1+s-1) (f6J:s≠0);have P:=Int.emod_lt_of_pos (lo2-lo1+s-1) h;rw[Int.mul_comm]at e;have m:s∣(lo2-lo1+s-1) / s*s:=Int.dvd_mul_left _ _;generalize(lo2-lo1+s-1) / s*s=q at *;subst T;refine⟨f6J,f6J,by rw[(f6J:lo1+q-lo1=q)];exact m,fun x a b d=>?_⟩;obtain⟨j,K⟩:=Int.dvd_sub m d;exact s2a
 ·simp_all
theorem x1T{a b}(H:right a=0)(Q:right b=0)(U:fam a.kind=fam b.kind)(G:a.kind≠15)(A:b.kind≠15):clash a b=true↔∃c,speaks a c=true/\speaks b c=true:=by
 have B:=right_step H;have u:=right_step Q;unfold clash;rw[if_neg M1U,if_neg G,x7S b f6J];obtain⟨t,S,g,j⟩:=y8d (lo1:=a.lo) (lo2:=max a.lo b.lo) (f6J:0<step a) rfl;generalize(if a.lo<max a.lo b.lo then a.lo+(max a.lo b.lo-a.lo+step a-1) / step a*step a else a.lo)=c0 at *;have:=y4c (hi1:=a.hi) (hi2:=b.hi) (N:=64) (lo1:=a.lo) (lo2:=b.lo) (s1:=step a) (s2:=step b) (c0:=c0) f6J f6J f6J t f6J g (fun x p q d=>j x p f6J d);constructor
 ·rintro⟨k,Z,D,R⟩;rw[x0J Q A]at R;obtain⟨x,J,s⟩:=this.2 ⟨k,Z,f6J,f6J,R.2.2⟩;exact⟨x,(x0J H G x).2 J,(x0J Q A x).2 s⟩
 ·rintro⟨x,J,s⟩;obtain⟨k,Z,D,R,z⟩:=this.1 ⟨x,(x0J H G x).1 J,(x0J Q A x).1 s⟩;refine⟨k,Z,f6J,(x0J Q A _).2 ⟨?_,R,z⟩⟩;have:=Int.mul_nonneg (f6J:(0:Int)<=k) (f6J:0<=step a);omega
theorem x8N{k}(h:fam k=10):k=15:=R8h
theorem y4K{a b}(H:right a=0)(Q:right b=0):clash a b=clash b a:=by
 by_cases U:fam a.kind=fam b.kind
 ·by_cases G:a.kind=15
  ·have A:b.kind=15:=x8N (by rw[<- U,G];exact e8M);unfold clash;rw[if_neg M1U,if_pos G,if_neg M1U,if_pos A];refine decide_eq_decide.2 ⟨?_,?_⟩
   ·grind
   ·rintro(⟨Z,D⟩ | ⟨Z,D⟩)
    ·exact .inl ⟨Z.symm,D.symm⟩
    ·exact .inr ⟨D.symm,Z.symm⟩
  ·have A:b.kind≠15:=fun e=>G (x8N (by rw[U,e];exact e8M));have Z:=x1T H Q U G A;have D:=x1T Q H U.symm A G;rw[Bool.eq_iff_iff,Z,D];constructor<;>exact fun⟨c,p,q⟩=>⟨c,q,p⟩
 ·unfold clash;rw[if_pos U,if_pos (fun e=>U e.symm)]
end Go.Proofs.YtbmckadcjdedcaaGreatDoor.Cn
namespace Go.Proofs.YtbmckadcjdedcaaGreatDoor.Cn
open Go.Proofs.Tryz
theorem getD_at{l:List Rec}{k}(h:k<l.length):l.getD k none=l[k]:=p8I
theorem x7k{l:List Rec}:∀(n i:Nat),l.length-i=n->i<=l.length->(x1E l i (l.drop i)=Option.none↔∀j,i<=j->(K:j<l.length)->∀k,(G:k<j)->clash l[k] l[j]=false)
 | 0,i,hn,hi=>by
  rw[List.drop_eq_nil_of_le f6J,x1E];exact⟨fun _ j a b=>f6J,fun _=>rfl⟩
 | n+1,i,hn,hi=>by
  have S:i<l.length:=f6J;rw[List.drop_eq_getElem_cons S,x1E];have B:=x7k (l:=l) n (i+1) f6J S
  have A:((l.take i).any fun k=>clash k l[i])=true↔∃k,∃G:k<i,clash l[k] l[i]=true:=by
   rw[List.any_eq_true];constructor
   ·rintro⟨x,J,T⟩;obtain⟨k,G,rfl⟩:=List.mem_take_iff_getElem.1 J;exact⟨k,f6J,T⟩
   ·rintro⟨k,G,T⟩;exact⟨l[k],List.mem_take_iff_getElem.2 ⟨k,f6J,rfl⟩,T⟩
  split
  ·next h =>
   obtain⟨k,G,T⟩:=A.1 h;exact⟨fun h=>(nomatch h),fun h=>by rw[h i (l0r _) S k G]at T;cases T⟩
  ·next h =>
   rw[B];constructor
   ·intro D j hij K k G;rcases Nat.eq_or_lt_of_le hij with rfl | hij
    ·exact Bool.eq_false_iff.2 fun T=>h (A.2 ⟨k,G,T⟩)
    ·exact D j hij K k G
   ·exact fun D j hij K k G=>D j f6J K k G
theorem x6Z:∀(l:List Rec) (i:Nat),x1g i l=Option.none↔∀r∈l,right r=0
 | [],_=>⟨fun _ r hr=>absurd hr M7K,fun _=>rfl⟩
 | x::l,i=>by
  rw[x1g,List.forall_mem_cons];split
  ·next h=>rw[x6Z l];exact⟨fun a=>⟨h,a⟩,fun a=>a.2⟩
  ·next h=>exact⟨fun a=>(nomatch a),fun a=>absurd a.1 h⟩
theorem x0m{l}:(check6 l).2=0↔l.length<=4096/\(∀r∈l,right r=0)/\l.Pairwise fun a b=>clash a b=false:=by
 have K:=x7k (l:=l) l.length 0 f6J f6J;rw[List.drop_zero]at K;have u:=x6Z l 0;rw[List.pairwise_iff_getElem];unfold check6;split
 ·omega
 ·next h =>
  split
  ·next x hx =>
   refine⟨fun a=>absurd a (x2p _ _ _ hx),fun a=>?_⟩;rw[u.2 a.2.1]at hx;cases hx
  ·grind
theorem y0k(f c:Int):∀(l:List Rec) (i:Nat),0<=findA f c i l->∃k,∃G:k<l.length,findA f c i l=(i+k:Nat)/\fam l[k].kind=f/\speaks l[k] c=true
 | [],i,h=>by rw[findA]at h;exact f6J
 | r::l,i,h=>by
  rw[findA]at h ⊢;split
  ·next hr=>exact⟨0,M7M,M7M,hr.1,hr.2⟩
  ·next hr =>
   rw[if_neg hr]at h;obtain⟨k,G,Z,D,R⟩:=y0k f c l (i+1) h;exact⟨k+1,P8P,by rw[Z];congr 1;exact f6J,D,R⟩
theorem x4Q(f c:Int):∀(l:List Rec) (i:Nat),(∃r∈l,fam r.kind=f/\speaks r c=true)->0<=findA f c i l
 | [],i,⟨r,hr,_⟩=>by cases hr
 | x::l,i,⟨r,hr,h1,h2⟩=>by
  rw[findA];split
  ·omega
  ·next hx =>
   rcases List.mem_cons.1 hr with rfl | hr
   ·exact absurd ⟨h1,h2⟩ hx
   ·exact x4Q f c l (i+1) ⟨r,hr,h1,h2⟩
theorem x2a{l f c r}(h:hit l f c=some r):r∈l/\fam r.kind=f/\speaks r c=true:=by
 unfold hit at h;split at h
 ·cases h
 ·next hf =>
  cases h;unfold find at hf ⊢;split at hf
  ·omega
  ·next hg =>
   rw[if_neg hg];obtain⟨k,G,Z,D,R⟩:=y0k f c l 0 f6J;rw[Z,(f6J:((0+k:Nat):Int).toNat=k),getD_at G];exact⟨List.getElem_mem G,D,R⟩
theorem once{l}(h:(check6 l).2=0){f c a b}(H:a∈l)(Q:b∈l)(A:fam a.kind=f)(fb:fam b.kind=f)(U:speaks a c=true)(M:speaks b c=true):a=b:=by
 obtain⟨_,u,L⟩:=x0m.1 h;rw[List.pairwise_iff_getElem]at L
 have G:∀{x:Rec},speaks x c=true->x.kind≠15:=fun J=>by
  unfold speaks at J;exact(o0d J).1
 obtain⟨i,hi,rfl⟩:=List.getElem_of_mem H;obtain⟨j,K,rfl⟩:=List.getElem_of_mem Q;rcases Nat.lt_trichotomy i j with Z | rfl | Z
 ·have:=L i j hi K Z;rw[Bool.eq_false_iff]at this;exact absurd ((x1T (u _ H) (u _ Q) (A.trans fb.symm) (G U) (G M)).2 ⟨c,U,M⟩) this
 ·rfl
 ·have:=L j i K hi Z;rw[Bool.eq_false_iff]at this;exact absurd ((x1T (u _ Q) (u _ H) (fb.trans A.symm) (G M) (G U)).2 ⟨c,M,U⟩) this
theorem x1U{l}(h:(check6 l).2=0){f c}(U:f≠10/\f≠0) r:hit l f c=some r↔r∈l/\fam r.kind=f/\speaks r c=true:=by
 refine⟨x2a,fun⟨h1,h2,h3⟩=>?_⟩;have X:=x4Q f c l 0 ⟨r,h1,h2,h3⟩
 have d:hit l f c=some (l.getD (find l f c).toNat none):=by
  unfold hit;rw[if_neg];unfold find;rw[if_neg f6J];omega
 obtain⟨M,T,I⟩:=x2a d;rw[d,once h M h1 T h2 I h3]
theorem y3G{l f c}(U:f≠10/\f≠0)(h:hit l f c=Option.none):∀r∈l,fam r.kind=f->speaks r c=false:=by
 intro r u D;refine Bool.eq_false_iff.2 fun R=>?_;have X:=x4Q f c l 0 ⟨r,u,D,R⟩;unfold hit at h;rw[if_neg]at h
 ·cases h
 ·unfold find;rw[if_neg f6J];omega
end Go.Proofs.YtbmckadcjdedcaaGreatDoor.Cn
namespace Go.Proofs.YtbmckadcjdedcaaGreatDoor.Cn
open Go.Proofs.Tryz
def y1d(a b:Rec):Prop:=a.kind=7/\b.kind=7/\a.to.getD 0 0=b.to.getD 0 0/\a.to.getD 1 0=b.to.getD 1 0
theorem z2L{l i r}(F:r.kind=7):pair l i r=true↔pair l 0 r=true/\∀k∈l.take i,¬y1d k r:=by
 unfold pair;rw[Bool.and_eq_true,Bool.and_eq_true];have A:(!((l.take 0).any fun k=>decide (k.kind=7/\k.to.getD 0 0=r.to.getD 0 0/\k.to.getD 1 0=r.to.getD 1 0)))=true:=M7K
 have hi:(!((l.take i).any fun k=>decide (k.kind=7/\k.to.getD 0 0=r.to.getD 0 0/\k.to.getD 1 0=r.to.getD 1 0)))=true↔∀k∈l.take i,¬y1d k r:=by
  rw[Bool.not_eq_true',Bool.eq_false_iff,Ne,List.any_eq_true];constructor
  ·exact fun h k G ⟨a,_,b,c⟩=>h ⟨k,G,d0t ⟨a,b,c⟩⟩
  ·rintro h ⟨k,G,hd⟩;obtain⟨a,b,c⟩:=o0d hd;exact h k G ⟨a,F,b,c⟩
 rw[hi];exact⟨fun⟨a,b⟩=>⟨⟨a,A⟩,b⟩,fun⟨⟨a,_⟩,b⟩=>⟨a,b⟩⟩
def recF(l:List Rec)(r:Rec)(b:Bool):Int :=
 if fam r.kind≠2/\fam r.kind≠3 then 0
 else if covers r 0 127 then 70
 else if covers r 4352 4370||covers r 4449 4469||covers r 4520 4546||covers r 44032 55203 then 71
 else if r.kind=7/\((jl (r.to.getD 0 0)&&jv (r.to.getD 1 0))||(syl (r.to.getD 0 0)&&decide ((r.to.getD 0 0-44032)%28=0)&&jt (r.to.getD 1 0)))=true then 71
 else if fam r.kind=2 then 0
 else if(full l r.lo).2≠0 then(full l r.lo).2
 else if fallsA l (full l r.lo).1 then 75
 else if b=true then 74
 else 0
theorem x9y l i r:record l i r=recF l r (decide (r.kind=7/\pair l i r=false)):=by
 unfold record recF;simp only[decide_eq_true_eq]
theorem recF_two{l r}(U:fam r.kind=3):(recF l r true=recF l r false/\recF l r false≠0)\/(recF l r true=74/\recF l r false=0):=by
 unfold recF;have Z:¬(fam r.kind≠2/\fam r.kind≠3):=fun h=>h.2 U;have D:¬fam r.kind=2:=f6J;simp only[if_neg Z,if_neg D,if_true];by_cases C:covers r 0 127=true
 ·simp[C]
 ·grind
theorem x5c{l i r}:record l i r=0↔record l 0 r=0/\∀k∈l.take i,¬y1d k r:=by
 rw[x9y,x9y];by_cases F:r.kind=7
 ·have L:=z2L (l:=l) (i:=i) F;have U:fam r.kind=3:=(by rw[F];exact e8M);have e:∀i,decide (r.kind=7/\pair l i r=false)=!(pair l i r):=fun i=>(by cases pair l i r<;>simp[F]);rw[e,e];rcases recF_two (l:=l) U with⟨Z,D⟩ | ⟨Z,D⟩
  ·grind
  ·grind
 ·have e:∀i,decide (r.kind=7/\pair l i r=false)=false:=fun i=>(by simp[F]);rw[e,e];exact⟨fun a=>⟨a,fun k _ s=>F s.2.1⟩,fun a=>a.1⟩
theorem x5y{l:List Rec}:∀(m:List Rec) (i:Nat),x0W l i m=Option.none↔∀j,(K:j<m.length)->record l (i+j) m[j]=0
 | [],i=>⟨fun _ j K=>absurd K M7L,fun _=>rfl⟩
 | r::m,i=>by
  rw[x0W];split
  ·next h =>
   rw[x5y m];constructor
   ·intro D j K
    cases j with
    | zero=>exact h
    | succ j =>
     have:=D j R6d;rwa [(f6J:i+1+j=i+(j+1))]at this
   ·intro D j K;have:=D (j+1) R6d;rwa [(f6J:i+(j+1)=i+1+j)]at this
  ·next h=>exact⟨fun a=>(nomatch a),fun a=>absurd (a 0 M7L) h⟩
theorem x3S{l:List Rec}:∀(m:List Rec) (i:Nat) (x:Nat×Int),x0W l i m=some x->x.2≠0
 | [],_,_,h=>by rw[x0W]at h;exact m5j
 | y::m,i,x,h=>by
  rw[x0W]at h;split at h
  ·exact x3S m (i+1) x h
  ·next hx=>cases h;exact hx
theorem x0L{l}:(check l).2=0↔(check6 l).2=0/\(∀r∈l,record l 0 r=0)/\(l.Pairwise fun a b=>¬y1d a b)/\baseA l 78 45=true:=by
 have u:=x5y (l:=l) l 0
 have J:(∀j,(K:j<l.length)->record l (0+j) l[j]=0)↔(∀r∈l,record l 0 r=0)/\l.Pairwise fun a b=>¬y1d a b:=by
  rw[List.pairwise_iff_getElem];constructor
  ·intro h;refine⟨fun r u=>?_,fun i j hi K p=>?_⟩
   ·obtain⟨j,K,rfl⟩:=List.getElem_of_mem u;exact(x5c.1 (h j K)).1
   ·exact(x5c.1 (h j K)).2 _ (List.mem_take_iff_getElem.2 ⟨i,f6J,rfl⟩)
  ·rintro⟨Z,D⟩ j K;refine x5c.2 ⟨Z _ (List.getElem_mem K),fun k G=>?_⟩;obtain⟨i,hi,rfl⟩:=List.mem_take_iff_getElem.1 G;exact D i j f6J K f6J
 unfold check;split
 ·omega
 ·next h =>
  split
  ·next x hx' =>
   refine⟨fun a=>absurd a (x3S _ _ _ hx'),fun a=>?_⟩;rw[u.2 (J.2 ⟨a.2.1,a.2.2.1⟩)]at hx';cases hx'
  ·grind
theorem z1z{a b}(H:right a=0)(Q:right b=0)(h:clash a b=false):clash b a=false:=by rw[y4K Q H];exact h
end Go.Proofs.YtbmckadcjdedcaaGreatDoor.Cn
namespace Go.Proofs.YtbmckadcjdedcaaGreatDoor.Cn
open Go.Proofs.Tryz
def x1y(f:Int)(s:List Rec):Prop:=(∀r∈s,right r=0/\fam r.kind=f)/\s.Pairwise fun a b=>a.hi<b.lo
def ahead(s:List Rec)(c:Int):Nat:=s.countP fun r=>decide (r.hi<c)
def near(s:List Rec)(c:Int):List Rec:=(s.drop (ahead s c)).take 1
theorem x4B{r}(h:fam r.kind=2\/fam r.kind=3):step r=1/\r.kind≠15/\r.kind≠4:=by
 have z:r.kind≠4:=by
  intro e;rw[e]at h;revert h;decide
 have H:r.kind≠15:=by
  intro e;rw[e]at h;revert h;decide
 exact⟨by unfold step;rw[if_neg z],H,z⟩
theorem x5i{r}(h:right r=0)(U:fam r.kind=2\/fam r.kind=3) c:speaks r c=true↔r.lo<=c/\c<=r.hi:=by
 obtain⟨Z,D,_⟩:=x4B U;rw[x0J h D,x8V,Z];constructor
 ·rintro⟨a,b,_⟩;exact⟨a,b⟩
 ·omega
theorem y5H{f}(U:f=2\/f=3){s}(hr:∀r∈s,right r=0/\fam r.kind=f)(T:s.Pairwise fun a b=>clash a b=false)(X:s.Pairwise fun a b=>a.lo<=b.lo):x1y f s:=by
 refine⟨hr,?_⟩;have h:=List.pairwise_and_iff.2 ⟨T,X⟩;refine h.imp_of_mem fun{a b} ha hb ⟨h1,h2⟩=>?_;obtain⟨H,A⟩:=hr a ha;obtain⟨D,fb⟩:=hr b hb;have B:fam a.kind=2\/fam a.kind=3:=f6J;have E:fam b.kind=2\/fam b.kind=3:=f6J;obtain⟨_,F,_⟩:=x4B B;obtain⟨_,C,_⟩:=x4B E;obtain⟨_,M,_⟩:=x0o D C;refine Int.not_le.1 fun v=>?_;have:clash a b=true:=(x1T H D f6J F C).2 ⟨b.lo,(x5i H B _).2 ⟨h2,v⟩,(x5i D E _).2 ⟨Int.le_refl _,M⟩⟩;rw[h1]at this;cases this
theorem x9m{s c r}(h:r∈near s c):r∈s:=List.mem_of_mem_drop (List.mem_of_mem_take h)
theorem y9i{f:Int}(U:f=2\/f=3):∀{s:List Rec} (_:x1y f s) {c:Int} {r:Rec} (_:r∈s) (_:r.lo<=c) (_:c<=r.hi),r∈near s c
 | [],_,_,_,h,_,_=>m5j
 | a::s,ho,c,r,h,h1,h2=>by
  obtain⟨hr,L⟩:=ho;rw[List.pairwise_cons]at L;by_cases H:a.hi<c
  ·have F:r≠a:=by rintro rfl;omega
   have y:r∈s:=by
    rcases List.mem_cons.1 h with e | e
    ·exact absurd e F
    ·exact e
   have B:=y9i U (s:=s) ⟨fun x hx=>hr x (List.mem_cons_of_mem _ hx),L.2⟩ y h1 h2
   have e:ahead (a::s) c=ahead s c+1:=by
    unfold ahead;rw[List.countP_cons_of_pos P5h]
   unfold near;rw[e,List.drop_succ_cons];exact B
  ·have o:ahead (a::s) c=0:=by
    unfold ahead;rw[List.countP_eq_zero];intro x hx;rcases List.mem_cons.1 hx with rfl | A
    ·exact P5h
    ·have R:=L.1 x A;obtain⟨D,fx⟩:=hr x hx;obtain⟨_,C,_⟩:=x4B (r:=x) f6J;have:=x0o D C;simp;omega
   have e:r=a:=by
    rcases List.mem_cons.1 h with e | e
    ·exact e
    ·have:=L.1 r e;omega
   subst e;unfold near;rw[o];simp
theorem y5A{f s}(j:x1y f s) c:(check6 (near s c)).2=0:=by
 refine x0m.2 ⟨?_,fun r u=>(j.1 r (x9m u)).1,?_⟩
 ·unfold near;rw[List.length_take];omega
 ·have:(near s c).length<=1:=by unfold near;rw[List.length_take];omega
  match near s c,this with
  | [],_=>exact .nil
  | [_],_=>simp
  | _::_::_,h=>simp at h
theorem x9l{f}(U:f=2\/f=3){l s}(S:(check6 l).2=0)(j:x1y f s)(y:∀r,r∈s↔r∈l/\fam r.kind=f) c:hit (near s c) f c=hit l f c:=by
 have F:f≠10/\f≠0:=f6J;apply Option.ext;intro r;rw[x1U (y5A j c) F,x1U S F];constructor
 ·rintro⟨Z,D,R⟩;exact⟨((y r).1 (x9m Z)).1,D,R⟩
 ·rintro⟨Z,D,R⟩;have X:=(y r).2 ⟨Z,D⟩;have u:=j.1 r X;have:=(x5i u.1 f6J c).1 R;exact⟨y9i U j X this.1 this.2,D,R⟩
theorem z2z{l s}(S:(check6 l).2=0)(j:x1y 2 s)(y:∀r,r∈s↔r∈l/\fam r.kind=2) c:cls (near s c) c=cls l c:=by
 unfold cls;rw[x9l (.inl rfl) S j y]
theorem x9n{l s}(S:(check6 l).2=0)(j:x1y 3 s)(y:∀r,r∈s↔r∈l/\fam r.kind=3) c:opn (near s c) c=opn l c:=by
 unfold opn;rw[x9l (.inr rfl) S j y]
theorem y9j{l s}(S:(check6 l).2=0)(j:x1y 3 s)(y:∀r,r∈s↔r∈l/\fam r.kind=3) c:prim (near s c) c=prim l c:=by
 unfold prim;rw[x9n S j y,x9l (.inr rfl) S j y]
end Go.Proofs.YtbmckadcjdedcaaGreatDoor.Cn
namespace Go.Proofs.YtbmckadcjdedcaaGreatDoor
open Go.Proofs.Tryz
open Go.RowKit
theorem y5m x w:Calls prog 228 #[.int .i64 x] w fun e w'=>e=.returned (.bool false)/\w'=w:=by
 have J:(x != x)=false:=M7L;go_enter func228,ntmps228;exact t6u
theorem x2X x y w:Calls prog 172 #[.int .i64 x,.int .i64 y] w fun e w'=>e=.returned (.int .i64 (Lib.compareInt x y))/\w'=w:=by
 have K:=O y5m;have Y:∀r,r=Lib.compareInt x y->(Ending.returned (.int .i64 r)=.returned (.int .i64 (Lib.compareInt x y))/\w=w):=fun r h=>(by subst h;exact g9T);have T:x<y->Lib.compareInt x y=-1:=fun h=>(by unfold Lib.compareInt;rw[if_pos h]);have f:y<x->Lib.compareInt x y=1:=fun h=>(by unfold Lib.compareInt;rw[if_neg f6J,if_pos f6J]);have s:¬x<y->¬y<x->Lib.compareInt x y=0:=fun Z D=>(by unfold Lib.compareInt;rw[if_neg Z,if_neg f6J]);by_cases Z:x<y
 ·rw[T Z];exact n2X
 ·by_cases D:y<x
  ·rw[f D];exact n2X
  ·rw[s Z D];exact n2X
theorem y2u r vt c w:Calls prog 268 #[recV r vt,.int .i64 c] w fun e w'=>e=.returned (.int .i64 (Lib.compareInt r.hi c))/\Bw w w':=by
 have K:=O (fun W=>x2X r.hi c W);unfold recV;have t:∀o,Bw w (w.alloc o):=fun o=>(b0r).alloc (l0r _) _;have T:=O t;go_enter func268,ntmps268;go_wp2_with fail;refine(V K _).mono ?_;rintro e I ⟨rfl,rfl⟩;go_wp2;go_ret;exact⟨rfl,V T _⟩
def Bdry(s:List Rec)(c:Int)(lo hi:Nat):Prop:=(∀t,t<lo->(s.getD t Cn.none).hi<c)/\(∀t,hi<=t->t<s.length->¬(s.getD t Cn.none).hi<c)
def y1A(w:World)(s:List Rec)(c:Int)(e:Ending)(w':World):Prop:=∃(k:Nat) (b:Bool),e=.returned (.tuple #[.int .i64 k,.bool b])/\Below w.heap.size w w'/\k<=s.length/\Bdry s c k k
theorem y6c v s c w(N:Rcs w v s)(k:∀a b,a<=b->b<s.length->(s.getD b Cn.none).hi<c->(s.getD a Cn.none).hi<c) :
  Calls prog 267 #[v,.int .i64 c,.func (.func 268) #[] #[]] w (y1A w s c):=by
 have Z:∀D w,(callFunc 268 D).run prog w=.ok (.enter 268 D) w:=enters_of func268 f4y rfl;have KN:=O (fun r F W=>y2u r F c W);have G:=O k;have ai:=N.1;rcases Nat.eq_zero_or_pos s.length with n0 | n0
 ·obtain⟨R,M,rfl,_,_⟩:=N.shape;have af:y1A w s c (.returned (.tuple #[.int .i64 0,.bool false])) w:=⟨0,false,rfl,b0r,f6J,fun t K=>f6J,fun t _ K=>f6J⟩;rw[n0];go_enter func267,ntmps267;go_wp2;refine wp_loop_rounds 1 ?_;rw[rounds_succ];go_wp2;go_ret2;exact af
 ·obtain⟨b,P,M,rfl,aj,am,T⟩:=N.place n0;have B:Hid (∀i,i<s.length->∀W,Bw w W->RecAt W b (P+i*8) (s.getD i Cn.none)):=fun i hi W hb=>(T i hi).below hb;go_enter func267,ntmps267;go_wp2;go_loopw[9,10,11] (fun i j _ wr=>∃lo hi:Nat,i=.int .i64 lo/\j=.int .i64 hi/\lo<=hi/\hi<=s.length/\Bw w wr/\Hid (Bdry s c lo hi)) (fun i j _ _=>(intOf j).toNat-(intOf i).toNat)
  case atStart=>exact⟨0,s.length,rfl,rfl,f6J,f6J,b0r,⟨fun t K=>f6J,fun t h1 h2=>f6J⟩⟩
  case round =>
   obtain⟨lo,hi,rfl,rfl,J,ag,A,I⟩:=hrel;by_cases H:lo<hi
   ·have Y:(lo+hi) / 2<s.length:=f6J;have n:=V B ((lo+hi) / 2) Y wr A;obtain⟨x0,u,X,g,⟨F,x,ab⟩,x5,p,Q⟩:=n;obtain⟨ae,L,rfl,_,_⟩:=ab.shape;have KC:=O (V KN (s.getD ((lo+hi) / 2) Cn.none) (.slice ae (s.getD ((lo+hi) / 2) Cn.none).to.length L) wr);unfold recV at KC
    have U:Hid ((s.getD ((lo+hi) / 2) Cn.none).hi<c->Bdry s c ((lo+hi) / 2+1) hi):=fun h =>
     ⟨fun t K=>V G t ((lo+hi) / 2) f6J Y h,(V I).2⟩
    have f:Hid (¬(s.getD ((lo+hi) / 2) Cn.none).hi<c->Bdry s c lo ((lo+hi) / 2)):=fun h =>
     ⟨(V I).1,fun t K l h2=>h (V G ((lo+hi) / 2) t K l h2)⟩
    have q:∀z,Lib.compareInt z c<0↔z<c:=fun z=>(by unfold Lib.compareInt;split<;>(try split)<;>omega);have m:=q (s.getD ((lo+hi) / 2) Cn.none).hi;generalize s.getD ((lo+hi) / 2) Cn.none=r at *;by_cases o:r.hi<c
    ·have y:=m.2 o;have S:=O (V U o);generalize Lib.compareInt r.hi c=z at *;go_wp2_with fail;refine c0m KC fun w1 E=>?_;have d:=x0b A E;go_wp2
     go_roundw
     case rel=>exact⟨(lo+hi) / 2+1,hi,g2A,rfl,f6J,f6J,d,S⟩
     case measure=>exact g7V
    ·have y:¬Lib.compareInt r.hi c<0:=fun h=>o (m.1 h);have S:=O (V f o);generalize Lib.compareInt r.hi c=z at *;go_wp2_with fail;refine c0m KC fun w1 E=>?_;have d:=x0b A E;go_wp2
     go_roundw
     case rel=>exact⟨lo,(lo+hi) / 2,rfl,g2A,f6J,f6J,d,S⟩
     case measure=>exact g7V
   ·obtain rfl:hi=lo:=f6J;have C:Hid (∀(b:Bool) W,Bw w W->y1A w s c (.returned (.tuple #[.int .i64 (hi:Int),.bool b])) W):=fun b W h=>⟨hi,b,rfl,h,ag,V I⟩;by_cases hn:hi<s.length
    ·have n:=V B hi hn wr A;obtain⟨x0,u,X,g,⟨F,x,ab⟩,x5,p,Q⟩:=n;obtain⟨ae,L,rfl,_,_⟩:=ab.shape;have KC:=O (V KN (s.getD hi Cn.none) (.slice ae (s.getD hi Cn.none).to.length L) wr);unfold recV at KC;generalize s.getD hi Cn.none=r at x0 u X g x x5 p Q KC;generalize Lib.compareInt r.hi c=z at *;go_wp2_with fail;refine c0m KC fun w1 E=>?_;have d:=x0b A E;go_wp2;go_ret2;exact V C _ _ d
    ·clear B KN G I;go_wp2;go_ret2;exact V C _ _ A
theorem Rcs.sub{w ao len cap k s}(h:Rcs w (.slice ao len cap) s)(S:s.length=len)(G:k<len):∃b off,ao=some ⟨b,off,none⟩/\Rcs w (.slice (some ⟨b,off+k*8,none⟩) 1 (cap-k)) ((s.drop k).take 1):=by
 obtain⟨Z,D,R⟩:=h;rcases R with⟨rfl,g,J,N,y⟩ | ⟨b,off,J,N,A,y,T⟩
 ·simp at S;omega
 ·simp only[Value.slice.injEq]at N;obtain⟨rfl,e,rfl⟩:=N;have I:((s.drop k).take 1).length=1:=P8P;refine⟨b,off,rfl,f6J,fun r u=>D r (List.mem_of_mem_drop (List.mem_of_mem_take u)),.inr ⟨b,off+k*8,cap-k,by rw[I],f6J,f6J,fun i hi=>?_⟩⟩;obtain rfl:i=0:=f6J;have:=T k f6J;rw[(I1M:((s.drop k).take 1).getD 0 Cn.none=s.getD k Cn.none),Nat.zero_mul,Nat.add_zero];exact this
theorem y4x{s c}:∀{k:Nat},k<=s.length->Bdry s c k k->Cn.ahead s c=k:=by
 induction s with
 | nil=>intro k G _;simp at G;subst G;rfl
 | cons a s ih =>
  intro k G ⟨Z,D⟩
  cases k with
  | zero =>
   unfold Cn.ahead;rw[List.countP_eq_zero];intro x J;obtain⟨t,K,rfl⟩:=List.getElem_of_mem J;have:=D t (Nat.zero_le _) K;rw[show(a::s).getD t Cn.none=(a::s)[t]from by rw[List.getD_eq_getElem?_getD,List.getElem?_eq_getElem K];rfl]at this;exact W2K
  | succ k =>
   have A:a.hi<c:=(by simpa using Z 0 f6J);have:Cn.ahead s c=k:=ih (by simpa using G) ⟨fun t K=>by simpa using Z (t+1) f6J,fun t K B=>by simpa using D (t+1) f6J P8P⟩;unfold Cn.ahead at this ⊢;rw[List.countP_cons_of_pos N6t,this]
theorem y0N{f}(U:f=2\/f=3){s}(j:Cn.x1y f s) c:∀a b,a<=b->b<s.length->(s.getD b Cn.none).hi<c->(s.getD a Cn.none).hi<c:=by
 intro a b B Q h;rcases Nat.lt_or_eq_of_le B with H | rfl
 ·have L:=List.pairwise_iff_getElem.1 j.2 a b f6J Q H;have eb:s.getD b Cn.none=s[b]:=(by grind);have ea:s.getD a Cn.none=s[a]:=(by grind);rw[eb]at h;rw[ea];obtain⟨D,fb⟩:=j.1 s[b] (List.getElem_mem Q);obtain⟨_,C,_⟩:=Cn.x4B (r:=s[b]) f6J;have:=Cn.x0o D C;omega
 ·exact h
def z4o(w0 w:World)(s:List Rec)(e:Ending)(w':World):Prop:=∃v,e=.returned v/\Rcs w0 v s/\Below w.heap.size w w'
theorem x9k v s c f(U:f=2\/f=3) w0 w(N:Rcs w0 v s)(q:Bw w0 w)(j:Cn.x1y f s)(T:Rune c):Calls prog 232 #[v,.int .i32 c] w (z4o w0 w (Cn.near s c)):=by
 have K:=O (y6c v s c w (N.below q) (y0N U j c));have L:=N.1;obtain⟨R,M,rfl,F,u⟩:=N.shape;obtain⟨o,C⟩:=T;have r:=O N;go_enter func232,ntmps232;go_wp2_with fail;refine(V K).mono ?_;rintro e I ⟨k,b,rfl,E,G,B⟩;have J:=y4x G B;by_cases H:k<s.length
 ·obtain⟨Q,P,rfl,D⟩:=(V r).sub rfl H;have Y:z4o w0 w (Cn.near s c) (.returned (.slice (some ⟨Q,P+k*8,none⟩) 1 (M-k))) I:=⟨_,rfl,by unfold Cn.near;rw[J];exact D,E⟩;have W:min ((k:Int)+1) (s.length:Int)=(k:Int)+1:=f6J;have n:¬M-k=0:=f6J;exact n0M
 ·obtain rfl:k=s.length:=f6J;have Y:∀g m,m<=9223372036854775807->z4o w0 w (Cn.near s c) (.returned (.slice g 0 m)) I:=fun g m y=>⟨_,rfl,by unfold Cn.near;rw[J,List.drop_length];exact⟨M7L,fun _ h=>m5l,.inl ⟨rfl,g,_,rfl,y⟩⟩,E⟩;have W:min ((s.length:Int)+1) (s.length:Int)=(s.length:Int):=f6J;go_wp2
  all_goals
   go_ret;exact Y _ _ f6J
structure Idx(l:List Rec)(w0:World)(cv ov:Value)(cs os:List Rec):Prop where
 rc:Rcs w0 cv cs
 ro:Rcs w0 ov os
 oc:Cn.x1y 2 cs
 oo:Cn.x1y 3 os
 mc:∀r,r∈cs↔r∈l/\Cn.fam r.kind=2
 mo:∀r,r∈os↔r∈l/\Cn.fam r.kind=3
 ok:(Cn.check6 l).2=0
theorem Idx.below{l w0 w1 cv ov cs os}(h:Idx l w0 cv ov cs os)(Q:Bw w0 w1):Idx l w1 cv ov cs os:={ h with rc:=h.rc.below Q,ro:=h.ro.below Q }
def xV(cv ov mv:Value):Value:=.agg #[cv,ov,mv]
theorem x8x l cs os cv ov mr c w(C:Glob w)(h:Idx l w cv ov cs os)(T:Rune c):Calls prog 179 #[xV cv ov (.map (some mr)),.int .i32 c] w (IntB w (Cn.cls l c)):=by
 obtain⟨p,Z,rfl,_,_⟩:=h.rc.shape;obtain⟨M,D,rfl,_,_⟩:=h.ro.shape;have Q:Bw w (w.alloc (.cells #[.slice p cs.length Z,.slice M os.length D,.map (some mr)] 125)):=(b0r).alloc (l0r _) _;have K:=O (x9k _ cs c 2 (.inl rfl) w _ h.rc Q h.oc T);have g:=O (fun W v' (Q:Bw w W) (N:Rcs w v' (Cn.near cs c))=>z7K v' (Cn.near cs c) c W (C.on Q) (N.below Q) T);rw[Cn.z2z h.ok h.oc h.mc]at g;generalize Cn.cls l c=z at *;unfold xV;go_enter func179,ntmps179;go_wp2_with fail;refine(V K).mono ?_;rintro e I ⟨u,rfl,r,E⟩;have x:=O (V g I u (x0b Q E) r);have F:=x0b Q E;obtain⟨B,A,rfl,_,_⟩:=r.shape;go_wp2_with fail;refine c0m x fun d s=>?_;have Y:IntB w z (.returned (.int .i64 z)) d:=⟨rfl,x0b F s⟩;go_wp2;go_ret;exact Y
theorem y1v l cs os cv ov mr c w0 w(C:Glob w0)(h:Idx l w0 cv ov cs os)(q:Bw w0 w)(T:Rune c):Calls prog 178 #[xV cv ov (.map (some mr)),.int .i32 c] w (OpB w0 w (Cn.opn l c)):=by
 obtain⟨p,Z,rfl,_,_⟩:=h.rc.shape;obtain⟨M,D,rfl,_,_⟩:=h.ro.shape;have Q:Bw w (w.alloc (.cells #[.slice p cs.length Z,.slice M os.length D,.map (some mr)] 125)):=(b0r).alloc (l0r _) _;have K:=O (x9k _ os c 3 (.inr rfl) w0 _ h.ro (q.trans (Q.mono q.size)) h.oo T);have g:=O (fun W v' (Q:Bw w W) (N:Rcs w0 v' (Cn.near os c))=>x8j v' (Cn.near os c) c w0 W ((C.on q).on Q) N (q.trans (Q.mono q.size)) T);rw[Cn.x9n h.ok h.oo h.mo]at g;generalize Cn.opn l c=z at *;unfold xV;go_enter func178,ntmps178;go_wp2_with fail;refine(V K).mono ?_;rintro e I ⟨u,rfl,r,E⟩;have x:=O (V g I u (x0b Q E) r);have F:=x0b Q E;obtain⟨B,A,rfl,_,_⟩:=r.shape;go_wp2_with fail;refine(V x).mono ?_;rintro e d ⟨U,rfl,G,s⟩;have Y:OpB w0 w z (.returned U) d:=⟨U,rfl,G.imp id (fun h=>h.lower F.size),x0b F s⟩;exact n0L
theorem z0U l cs os cv ov mr c w(C:Glob w)(h:Idx l w cv ov cs os)(T:Rune c):Calls prog 180 #[xV cv ov (.map (some mr)),.int .i32 c] w (x0c w (Cn.prim l c).isSome):=by
 obtain⟨p,Z,rfl,_,_⟩:=h.rc.shape;obtain⟨M,D,rfl,_,_⟩:=h.ro.shape;have Q:Bw w (w.alloc (.cells #[.slice p cs.length Z,.slice M os.length D,.map (some mr)] 125)):=(b0r).alloc (l0r _) _;have K:=O (x9k _ os c 3 (.inr rfl) w _ h.ro Q h.oo T);have g:=O (fun W v' (Q:Bw w W) (N:Rcs w v' (Cn.near os c))=>primC v' (Cn.near os c) c W (C.on Q) (N.below Q) T);rw[Cn.y9j h.ok h.oo h.mo]at g;generalize Cn.prim l c=z at *;unfold xV;go_enter func180,ntmps180;go_wp2_with fail;refine(V K).mono ?_;rintro e I ⟨u,rfl,r,E⟩;have x:=O (V g I u (x0b Q E) r);have F:=x0b Q E;obtain⟨B,A,rfl,_,_⟩:=r.shape;go_wp2_with fail;refine c0m x fun d s=>?_;have Y:x0c w z.isSome (.returned (.bool z.isSome)) d:=⟨rfl,x0b F s⟩;go_wp2;go_ret;exact Y
theorem z9V l cs os cv ov mr w(C:Glob w)(h:Idx l w cv ov cs os):y1z 178 #[xV cv ov (.map (some mr))] #[] l w :=
 fun c W U T=>y1v l cs os cv ov mr c w W C h U T
theorem idx_len{l cs os cv ov w}(h:Idx l w cv ov cs os) c:(Cn.opn l c).length<=1000000000:=by
 rw[<- Cn.x9n h.ok h.oo h.mo];unfold Cn.opn;split
 ·split<;>simp
 ·cases hh:Cn.hit (Cn.near os c) 3 c with
  | none=>simp
  | some r =>
   obtain⟨Z,_,_⟩:=Cn.x2a hh;exact(h.ro.2.1 r (Cn.x9m Z)).len
theorem z0T l cs os cv ov mr c w(C:Glob w)(h:Idx l w cv ov cs os)(T:Rune c):Calls prog 177 #[.func (.func 178) #[xV cv ov (.map (some mr))] #[],.int .i32 c] w (x7r w (Cn.full l c)) :=
 fullK 178 _ _ l w (z9V l cs os cv ov mr w C h) (enters_of func178 f4x rfl) (idx_len h) c T
theorem hmeets_any b r x y w(Z:w.cell? ⟨b,1,none⟩=some (.int .i64 r.lo))(D:w.cell? ⟨b,2,none⟩=some (.int .i64 r.hi)):Calls prog 173 #[.int .i64 x,.int .i64 y,.pointer (some ⟨b,0,none⟩)] w fun e w'=>e=.returned (.bool (Cn.covers r x y))/\w'=w:=by
 unfold Cn.covers;by_cases L:r.lo<=y
 ·by_cases g:x<=r.hi
  ·rw[d0t ⟨L,g⟩];exact I3D
  ·rw[d0f (fun h=>g h.2)];have p:decide (x<=r.hi)=false:=d0f g;exact I3D
 ·rw[d0f (fun h=>L h.1)];exact I3D
def touches(r:Rec):Bool:=Cn.covers r 4352 4370||Cn.covers r 4449 4469||Cn.covers r 4520 4546||Cn.covers r 44032 55203
theorem x3V r ao len cap w:Calls prog 129 #[recV r (.slice ao len cap)] w (x0c w (touches r)):=by
 have Q:Bw w (w.alloc (.cells #[.int .i64 r.kind,.int .i64 r.lo,.int .i64 r.hi,.int .i64 r.n,.slice ao len cap,.string r.name,.string r.other,.float .f64 r.wt] 67)):=(b0r).alloc (l0r _) _;have K:=O (fun x y=>hmeets_any w.heap.size r x y (w.alloc (.cells #[.int .i64 r.kind,.int .i64 r.lo,.int .i64 r.hi,.int .i64 r.n,.slice ao len cap,.string r.name,.string r.other,.float .f64 r.wt] 67)) M7L M7L);have Z:∀D w,(callFunc 173 D).run prog w=.ok (.enter 173 D) w:=enters_of func173 f4x rfl;have H:∀(fn:Fn) (first cap:Array Value) (w:World),(Instr.makeFunc fn first cap).run prog w=.ok (.func fn first cap) w:=fun _ _ _ _=>rfl;have t:=O Q;have o:=O (V K 4352 4370);have g:=O (V K 4449 4469);have G:=O (V K 4520 4546);have S:=O (V K 44032 55203);have v:touches r=(Cn.covers r 4352 4370||Cn.covers r 4449 4469||Cn.covers r 4520 4546||Cn.covers r 44032 55203):=rfl;rw[v];generalize Cn.covers r 4352 4370=c1,Cn.covers r 4449 4469=c2,Cn.covers r 4520 4546=c3,Cn.covers r 44032 55203=c4 at *;unfold recV;cases c1
 ·cases c2
  ·cases c3
   ·rw[(M7L:(false||false||false||c4)=c4)];go_enter func129,ntmps129;go_wp2_with fail;refine(V o).mono ?_;rintro e I ⟨rfl,rfl⟩;go_wp2_with fail;refine(V g).mono ?_;rintro e I ⟨rfl,rfl⟩;go_wp2_with fail;refine(V G).mono ?_;rintro e I ⟨rfl,rfl⟩;go_wp2_with fail;refine(V S).mono ?_;exact M3m
   ·rw[(M7L:(false||false||true||c4)=true)];go_enter func129,ntmps129;go_wp2_with fail;refine(V o).mono ?_;rintro e I ⟨rfl,rfl⟩;go_wp2_with fail;refine(V g).mono ?_;rintro e I ⟨rfl,rfl⟩;go_wp2_with fail;refine(V G).mono ?_;exact M3m
  ·rw[(M7L:(false||true||c3||c4)=true)];go_enter func129,ntmps129;go_wp2_with fail;refine(V o).mono ?_;rintro e I ⟨rfl,rfl⟩;go_wp2_with fail;refine(V g).mono ?_;exact M3m
 ·rw[(M7L:(true||c2||c3||c4)=true)];go_enter func129,ntmps129;go_wp2_with fail;refine(V o).mono ?_;exact M3m
def makes(a b:Int):Bool:=(Cn.jl a&&Cn.jv b)||(Cn.syl a&&decide ((a-44032)%28=0)&&Cn.jt b)
theorem y8X a b w:Calls prog 130 #[.int .i32 a,.int .i32 b] w fun e w'=>e=.returned (.bool (makes a b))/\w'=w:=by
 have J:=O (x6G a w);by_cases X:Cn.syl a=true
 ·have i:44032<=a/\a<=55203:=r6g;rw[X]at J;have o:=O (y4g a w i);have g:=O (x3x b 4520 4546 w)
  have e:makes a b=(decide ((a-44032)%28=0)&&decide (4520<=b/\b<=4546)):=by
   unfold makes;rw[X,show Cn.jl a=false by unfold Cn.jl;exact d0f f6J];simp[Cn.jt]
  rw[e];generalize decide (4520<=b/\b<=4546)=z at *;by_cases A:(a-44032)%28=0
  ·rw[d0t A,Bool.true_and];rw[A]at o;exact U4L
  ·rw[d0f A,Bool.false_and];generalize(a-44032)%28=t at *;have K:(t==0)=false:=b0f A;exact s9L
 ·have i:Cn.syl a=false:=R1Z;rw[i]at J;have o:=O (x3x a 4352 4370 w);have g:=O (x3x b 4449 4469 w)
  have e:makes a b=(decide (4352<=a/\a<=4370)&&decide (4449<=b/\b<=4469)):=by
   unfold makes;rw[i];simp[Cn.jl,Cn.jv]
  rw[e];generalize decide (4352<=a/\a<=4370)=y,decide (4449<=b/\b<=4469)=z at *;cases y
  ·rw[Bool.false_and];exact s9L
  ·rw[Bool.true_and];exact U4L
namespace Cn
theorem y2J{r}(h:right r=0)(q:r.kind=6):1<=r.n/\r.n<=254:=by
 have U:=x0w h;unfold right at h;rw[if_neg U,if_neg f6J]at h;have T:=x1z h;rw[Bool.and_eq_true,if_neg f6J,if_neg f6J,if_neg f6J,if_neg f6J,if_neg f6J,if_pos q]at T;have D:=T.2;simp only[Bool.and_eq_true]at D;exact o0d D.2
theorem z4R{l}(h:(check6 l).2=0) c:0<=cls l c:=by
 unfold cls
 cases hh:hit l 2 c with
 | none=>simp
 | some r =>
  obtain⟨Z,D,_⟩:=x2a hh;have u:=(x1J h).2 r Z
  have G:r.kind=6:=by
   revert D;exact r2C
  have:=y2J u G;simp only;omega
def x2j(l:List Rec):Int->List Int->Bool
 | _,[]=>false
 | a,b::r=>decide (cls l b≠0/\cls l b<a)||x2j l (cls l b) r
theorem y7U(l:List Rec):∀(a:Int) (r:List Int),fallsA l (a::r)=x2j l (cls l a) r
 | _,[]=>rfl
 | a,b::r=>by rw[fallsA,x2j,y7U l b r]
theorem z5j{l:List Rec}(h:(check6 l).2=0):∀x:List Int,fallsA l x=x2j l 0 x
 | []=>rfl
 | a::r=>by
  rw[y7U,x2j,d0f (fun q=>by have:=z4R h a;exact f6J),Bool.false_or]
theorem y1Y{l a}{x:List Int}{k}(G:k<x.length):x2j l a (x.drop k)=(decide (cls l (x.getD k 0)≠0/\cls l (x.getD k 0)<a)||x2j l (cls l (x.getD k 0)) (x.drop (k+1))):=by
 rw[List.drop_eq_getElem_cons G,x2j];exact w7Y
def wfull(l:List Rec)(c:Int):Int:=if(full l c).2≠0 then(full l c).2 else if fallsA l (full l c).1 then 75 else 0
end Cn
theorem y1t l cs os cv ov mr c w(hg:Glob w)(h:Idx l w cv ov cs os)(hc:Rune c):Calls prog 131 #[xV cv ov (.map (some mr)),.int .i32 c] w (IntB w (Cn.wfull l c)):=by
 obtain⟨p,Z,rfl,_,_⟩:=h.rc.shape;obtain⟨M,D,rfl,_,_⟩:=h.ro.shape;have hb:Bw w (w.alloc (.cells #[.slice p cs.length Z,.slice M os.length D,.map (some mr)] 125)):=(b0r).alloc (l0r _) _;have K:=O (z0T l cs os _ _ mr c _ (hg.on hb) (h.below hb) hc);have C:=O (fun W x (U:Bw w W) (hx:Rune x)=>x8x l cs os _ _ mr x W (hg.on U) (h.below U) hx)
 have b:Hid (∀W,Below (w.heap.size+1) (w.alloc (.cells #[.slice p cs.length Z,.slice M os.length D,.map (some mr)] 125)) W->W.cell? ⟨w.heap.size,0,none⟩=some (.slice p cs.length Z)/\W.cell? ⟨w.heap.size,1,none⟩=some (.slice M os.length D)/\W.cell? ⟨w.heap.size,2,none⟩=some (.map (some mr))):=fun W U=>R5x
 have aD:∀(fn:Fn) (first ab:Array Value) (w:World),(Instr.makeFunc fn first ab).run prog w=.ok (.func fn first ab) w:=fun _ _ _ _=>rfl;have aB:=Cn.z5j h.ok (Cn.full l c).1;have am:=Cn.x4k l c;have o:Hid ((Cn.full l c).2≠0->Cn.wfull l c=(Cn.full l c).2):=fun q=>if_pos q;have ai:Hid ((Cn.full l c).2=0->Cn.wfull l c=if Cn.x2j l 0 (Cn.full l c).1 then 75 else 0):=fun q=>(by unfold Cn.wfull;rw[if_neg f6J,aB]);generalize Cn.full l c=f,Cn.wfull l c=R at *;obtain⟨t,T⟩:=f;simp only at o ai am;unfold xV at *;have aw:(w.alloc (.cells #[.slice p cs.length Z,.slice M os.length D,.map (some mr)] 125)).heap.size=w.heap.size+1:=M7L;go_enter func131,ntmps131;go_wp2_with fail;refine(V K).mono ?_;rintro e I ⟨v1,rfl,y,E⟩;simp only at y;rw[aw]at E y;have s:Bw w I:=hb.trans (E.mono f6J);by_cases d:T=0
 ·subst d;have X:=V ai rfl;rcases Nat.eq_zero_or_pos t.length with n0 | n0
  ·obtain rfl:t=[]:=List.eq_nil_of_length_eq_zero n0
   have Y:IntB w R (.returned (.int .i64 0)) I:=by
    rw[X];exact⟨rfl,s⟩
   obtain⟨ao,ab,rfl,_,_⟩:=y.sk.shape;exact V9s
  ·have A:=y.sk;obtain⟨xb,az,aC,rfl,aF,aG,ay⟩:=A.place n0
   have HC:Hid (∀W,Below (w.heap.size+1) (w.alloc (.cells #[.slice p cs.length Z,.slice M os.length D,.map (some mr)] 125)) W->Bw I W->∀i,i<t.length->W.cell? ⟨xb,az+i,none⟩=some (.int .i32 (t.getD i 0))):=fun W _ U i hi=>by
    rw[U.cell (x0a (ay i hi))];exact ay i hi
   have aj:=O (fun k hk=>x1d A (i:=k) hk);have S:=O (fun a k hk=>Cn.y1Y (l:=l) (a:=a) (x:=t) (k:=k) hk);have u:=O X;have Q:=O E;have G:=O s;go_wp2;go_loopw[7,9,10,23] (fun a _ _ i wr=>∃(k:Nat) (z:Int),i=.int .i64 k/\a=.int .i64 z/\k<=t.length/\Hid (Cn.x2j l 0 t=Cn.x2j l z (t.drop k))/\Hid (Bw I wr)) (fun _ _ _ i _=>t.length-(intOf i).toNat)
   case atStart=>exact⟨0,0,rfl,rfl,f6J,V0q,b0r⟩
   case round =>
    obtain⟨k,z,rfl,rfl,hk,L,N⟩:=hrel;have r:=V N;have F:Below (w.heap.size+1) (w.alloc (.cells #[.slice p cs.length Z,.slice M os.length D,.map (some mr)] 125)) wr:=(V Q).trans (r.mono (by have:=(V Q).size;simp at this;exact f6J));have J:Bw w wr:=x0b (V G) r;by_cases H:k<t.length
    ·have a0:=V HC wr F r k H;obtain⟨y0,y1,y2⟩:=V b wr F;have KK:=O (V C wr (t.getD k 0) J (V aj k H));have ar:=V S z k H;rw[<- V L]at ar;have af:=O ar;generalize Cn.cls l (t.getD k 0)=n at *;generalize t.getD k 0=x at *;go_wp2_with fail;refine c0m KK fun w2 aA=>?_;have v:Bw I w2:=x0b (V N) aA;have ae:Bw w w2:=x0b (V G) v;by_cases g:n≠0/\n<z
     ·have Y:IntB w R (.returned (.int .i64 75)) w2:=by
       have P:=V u;rw[V af,d0t g,Bool.true_or]at P;rw[P];exact⟨rfl,ae⟩
      obtain⟨j,aq⟩:=g;have m:(n != 0)=true:=(by simp[j]);exact n0O
     ·have B:Hid (Cn.x2j l 0 t=Cn.x2j l n (t.drop (k+1))):=by
       show _=_;rw[V af,d0f g,Bool.false_or]
      have ag:=O v;by_cases aq:n<z
      ·have j:n=0:=by
        rcases Int.decEq n 0 with h | h
        ·exact absurd ⟨h,aq⟩ g
        ·exact h
       subst j;go_wp2
       go_roundw
       case rel=>exact⟨k+1,0,g2A,rfl,f6J,B,ag⟩
       case measure=>exact g7V
      ·clear HC aj S u Q G C b af N v ae g;go_wp2
       go_roundw
       case rel=>exact⟨k+1,n,g2A,rfl,f6J,B,ag⟩
       case measure=>exact g7V
    ·obtain rfl:k=t.length:=by omega
     have Y:IntB w R (.returned (.int .i64 0)) wr:=by
      have P:=V u;rw[V L,List.drop_length]at P;rw[P];exact⟨rfl,J⟩
     exact n0O
 ·obtain rfl:=V o d;have Y:IntB w R (.returned (.int .i64 R)) I:=⟨rfl,s⟩;have m:(R != 0)=true:=i1x;obtain⟨ao,ab,rfl,_,_⟩:=y.sk.shape;exact n0O
