/- CcG7 Cq7 Cr7 Cs7 Cw7 CcH7 CcI7 CcJ7 CcK7 -/
import Derived.Test.YtkglkajjofidoaaGreatDoorV9
import Derived.Defers
import Derived.Recover
import Derived.Shelf.SlSortCmp.WholeK
set_option maxHeartbeats 4000000
set_option maxRecDepth 8000
namespace Go.Proofs.YtkglkajjofidoaaGreatDoor
open Go.Proofs.Tryz
open Go.RowKit
theorem z2x (w:World):(Instr.typeAssert .nilIface 20 37 true).run prog w=.ok (.tuple #[.int .i64 0,.bool false]) w:=by kernel_rfl
theorem ta_ok (n:Int) (w:World):(Instr.typeAssert (.iface 37 (.int .i64 n)) 20 37 true).run prog w=.ok (.tuple #[.int .i64 n,.bool true]) w:=by kernel_rfl
theorem y1o (p q:Addr) (w:World):CallsD prog 186 #[.pointer (some p),.pointer (some q)] .returning w fun e u' w'=>e=.returned (.tuple #[])/\u'=.returning/\w'=w:=by
  refine callsD_of_wpS func186 rfl fun c₀ cs hu=>?_;apply wpS_seq;apply wpS_region;simp [wpOpsS,go_sem,recoverD,hu,ntmps186,Exit.thenS,z2x];apply wpS_seq;apply wpS_region;simp [wpOpsS,go_sem,Exit.thenS];refine wpS_cond (t:=false) (by simp [Act.eval,Array.replicate]) ?_;simp only [Bool.false_eq_true,if_false];refine wpS_of_wp (wp_skip ?_);cases c₀;simp_all [bodyPostS,results,Tryz.results186]
theorem y1n (p q:Addr) (n:Int) (x y:Value) (ax:List PanicEntry) (w:World) (hp:w.cell? p=some x) (bF:w.frozen? p=false) (hq:(w.setCell p (.slice none 0 0)).cell? q=some y) (bG:(w.setCell p (.slice none 0 0)).frozen? q=false) :
    CallsD prog 186 #[.pointer (some p),.pointer (some q)] (.panicking ({ v:=.iface 37 (.int .i64 n),recovered:=false } :: ax)) w fun e u' w' =>
      e=.returned (.tuple #[])/\u'=.panicking ({ v:=.iface 37 (.int .i64 n),recovered:=true } :: ax)/\w'=(w.setCell p (.slice none 0 0)).setCell q (.int .i64 n):=by
  refine callsD_of_wpS func186 rfl fun c₀ cs hu=>?_;apply wpS_seq;apply wpS_region;simp [wpOpsS,go_sem,recoverD,hu,ntmps186,Exit.thenS,ta_ok];apply wpS_seq;apply wpS_region;simp [wpOpsS,go_sem,Exit.thenS];refine wpS_cond (t:=true) (by simp [Act.eval,Array.replicate]) ?_;simp only [if_true];apply wpS_region;simp [wpOpsS,go_sem,hp,bF,hq,bG,bodyPostS,results,Tryz.results186]
def fw (w:World) (fv:Value):World:=((w.alloc (.cells #[.slice none 0 0] 23)).alloc (.cells #[.int .i64 0] 37)).alloc (.cells #[fv,.slice none 0 0,.slice none 0 0] 243)
theorem z1y (w:World) (fv:Value):(fw w fv).heap[w.heap.size]?=some (.cells #[.slice none 0 0] 23 (0,0))/\(fw w fv).heap[w.heap.size+1]?=some (.cells #[.int .i64 0] 37 (0,0))/\(fw w fv).heap[w.heap.size+2]?=some (.cells #[fv,.slice none 0 0,.slice none 0 0] 243 (0,0))/\(fw w fv).heap.size=w.heap.size+3:=by
  have e:(fw w fv).heap=((w.heap.push (.cells #[.slice none 0 0] 23 (0,0))).push (.cells #[.int .i64 0] 37 (0,0))).push (.cells #[fv,.slice none 0 0,.slice none 0 0] 243 (0,0)):=rfl;rw [e];refine ⟨?_,?_,?_,by simp⟩
  · rw [Array.getElem?_push,Array.getElem?_push,Array.getElem?_push]; simp; omega
  · rw [Array.getElem?_push,Array.getElem?_push]; simp
  · rw [Array.getElem?_push]; simp
theorem z1z (w:World) (fv:Value):Wk w.heap.size (fw w fv) (w.heap.size+2) fv [] [] (.slice none 0 0) (.slice none 0 0) :=
  ⟨(z1y w fv).2.2.1,by omega,Ok.nil _ _ _ _,Ok.nil _ _ _ _,fun g h=>by simp [Value.ownBlock] at h⟩
theorem y0u (w:World) (fv:Value):Bw w (fw w fv):=(((b0r).alloc (l0r _) _).alloc (by simp) _).alloc (by simp; omega) _
theorem y0t {w w1:World} {fv v:Value} {bs:List Int} {n:Int} (hf:Frm (fw w fv) w1 (w.heap.size+2) (.slice none 0 0) (.slice none 0 0)) (hv:Ok .i32 21 w1 w.heap.size v bs) :
    w1.heap[w.heap.size]?=some (.cells #[.slice none 0 0] 23 (0,0))/\w1.heap[w.heap.size+1]?=some (.cells #[.int .i64 0] 37 (0,0)) /\
    (∀ u,((w1.setCell ⟨w.heap.size,0,none⟩ u).setCell ⟨w.heap.size+1,0,none⟩ (.int .i64 n)).heap[w.heap.size]?=some (.cells #[u] 23 (0,0)) /\
     ((w1.setCell ⟨w.heap.size,0,none⟩ u).setCell ⟨w.heap.size+1,0,none⟩ (.int .i64 n)).heap[w.heap.size+1]?=some (.cells #[.int .i64 n] 37 (0,0)) /\
     (w1.setCell ⟨w.heap.size,0,none⟩ u).heap[w.heap.size+1]?=some (.cells #[.int .i64 0] 37 (0,0)) /\
     Bw w ((w1.setCell ⟨w.heap.size,0,none⟩ u).setCell ⟨w.heap.size+1,0,none⟩ (.int .i64 n)) /\
     Ok .i32 21 ((w1.setCell ⟨w.heap.size,0,none⟩ u).setCell ⟨w.heap.size+1,0,none⟩ (.int .i64 n)) w.heap.size v bs):=by
  obtain ⟨a0,a1,a2,a3⟩:=z1y w fv;have k0:w1.heap[w.heap.size]?=some (.cells #[.slice none 0 0] 23 (0,0)):=(by rw [hf.keep _ (by omega) (by omega) (by simp [Value.ownBlock]) (by simp [Value.ownBlock])]; exact a0);have k1:w1.heap[w.heap.size+1]?=some (.cells #[.int .i64 0] 37 (0,0)):=(by rw [hf.keep _ (by omega) (by omega) (by simp [Value.ownBlock]) (by simp [Value.ownBlock])]; exact a1);refine ⟨k0,k1,fun u=>?_⟩;have m1:(w1.setCell ⟨w.heap.size,0,none⟩ u).heap[w.heap.size+1]?=some (.cells #[.int .i64 0] 37 (0,0)):=(by rw [x0g _ (by omega)]; exact k1);refine ⟨?_,?_,m1,?_,?_⟩
  · rw [x0g _ (by omega),x0f k0]; rfl
  · rw [x0f m1]; rfl
  · have hb:Bw w w1:=(y0u w fv).trans (hf.below (z1z w fv) (by omega))
    exact x0c (x0c hb (l0r _) u) (by omega) _
  · refine hv.keep fun g h1=>?_
    obtain ⟨cur,hc⟩:=y4I hv h1;have g0:g≠w.heap.size:=fun e=>(by subst e; rw [k0] at hc; simp at hc);have g1:g≠w.heap.size+1:=fun e=>(by subst e; rw [k1] at hc; simp at hc);rw [x0g _ g1,x0g _ g0]
theorem fullK (g:Nat) (fa cb:Array Value) (rs:List Rec) (w:World) (hO:x8S g fa cb rs w) (eg:∀ args w,(callFunc g args).run prog w=.ok (.enter g args) w) (aq:∀ c,(Cn.opn rs c).length<=1000000000) (c:Int) (hc:Rune c) :
    Calls prog 149 #[.func (.func g) fa cb,.int .i32 c] w (x5y w (Cn.full rs c)):=by
  have K:=O (y6u g fa cb rs w hO eg aq 16 [] c [] (fw w (.func (.func g) fa cb)) (w.heap.size+2) _ _ (by simp) (by simp) hc (y0u w _) (z1z w _));have bp:∀ (fn:Fn) (first cap:Array Value) (w:World),(Instr.makeFunc fn first cap).run prog w=.ok (.func fn first cap) w:=fun _ _ _ _=>rfl;have hlen32:=Cn.x3e rs c;have bg:=Cn.y1c rs 16 [] c [];change Hid (Calls _ _ _ _ (x3Y _ _ _ _ _ _ _ (Cn.full rs c))) at K;change (Cn.full rs c).2≠0->(Cn.full rs c).1=[] at bg;clear hO aq;generalize Cn.full rs c=r at *;have HE:Hid (r.2≠0->r.1=[]):=bg;clear bg;go_enter_defers func149,ntmps149;go_wp2_with fail;refine (V K).mono ?_;rintro e1 w1 ⟨hf,⟨ba,bn⟩ | ⟨h0,rfl,wv',ev',aY,bD,bE⟩⟩
  · unfold Gave at bn
    subst bn;obtain ⟨k0,k1,kk⟩:=y0t (n:=r.2) hf (Ok.nil _ _ _ _);obtain ⟨m0,m1,m2,m3,m4⟩:=kk (.slice none 0 0);have HF:x5y w r (.returned (.tuple #[.slice none 0 0,.int .i64 r.2])) ((w1.setCell ⟨w.heap.size,0,none⟩ (.slice none 0 0)).setCell ⟨w.heap.size+1,0,none⟩ (.int .i64 r.2)):=⟨_,rfl,by rw [V HE ba]; exact m4,m3⟩;have z0:=cell_of (j:=0) m0 (by show 0<1; omega);have z1:=cell_of (j:=0) m1 (by show 0<1; omega);refine leaves_cons (f:=186) (args:=#[.pointer (some ⟨w.heap.size,0,none⟩),.pointer (some ⟨w.heap.size+1,0,none⟩)]) (by simp) (by simp [go_sem]) ?_;refine (y1n ⟨w.heap.size,0,none⟩ ⟨w.heap.size+1,0,none⟩ r.2 _ _ [] w1 (cell_of (j:=0) k0 (by show 0<1; omega)) (x0e k0) (cell_of (j:=0) m2 (by show 0<1; omega)) (x0e m2)).mono ?_;rintro e u' w2 ⟨rfl,rfl,rfl⟩;clear K hf k0 k1 kk m0 m1 m2 m3 m4;generalize (w1.setCell ⟨w.heap.size,0,none⟩ (.slice none 0 0)).setCell ⟨w.heap.size+1,0,none⟩ (.int .i64 r.2)=w9 at *;have z0':w9.cell? ⟨w.heap.size,0,none⟩=some (.slice none 0 0):=z0;have z1':w9.cell? ⟨w.heap.size+1,0,none⟩=some (.int .i64 r.2):=z1;clear z0 z1;simp [Leaves,settle,results,Tryz.results149,go_sem,z0',z1'];exact HF
  · obtain ⟨ao,cap,rfl,_,_⟩:=aY.e.sk.shape
    obtain ⟨k0,k1,kk⟩:=y0t (n:=0) hf aY.e;obtain ⟨m0,m1,m2,m3,m4⟩:=kk (.slice ao r.1.length cap);have HF:x5y w r (.returned (.tuple #[.slice ao r.1.length cap,.int .i64 0])) ((w1.setCell ⟨w.heap.size,0,none⟩ (.slice ao r.1.length cap)).setCell ⟨w.heap.size+1,0,none⟩ (.int .i64 0)):=⟨_,by rw [h0],m4,m3⟩;have x2:w1.cell? ⟨w.heap.size+1+1,2,none⟩=some (.slice ao r.1.length cap):=cell_of (j:=2) aY.blk (by show 2<3; omega);have y0:w1.cell? ⟨w.heap.size,0,none⟩=some (.slice none 0 0):=cell_of (j:=0) k0 (by show 0<1; omega);have y1:w1.cell? ⟨w.heap.size+1,0,none⟩=some (.int .i64 0):=cell_of (j:=0) k1 (by show 0<1; omega);have f0:=x0e (j:=0) k0;have f1:=x0e (j:=0) k1;have q1:(w1.setCell ⟨w.heap.size,0,none⟩ (.slice ao r.1.length cap)).cell? ⟨w.heap.size+1,0,none⟩=some (.int .i64 0):=cell_of (j:=0) m2 (by show 0<1; omega);have qf:=x0e (j:=0) m2;have z0:((w1.setCell ⟨w.heap.size,0,none⟩ (.slice ao r.1.length cap)).setCell ⟨w.heap.size+1,0,none⟩ (.int .i64 0)).cell? ⟨w.heap.size,0,none⟩=some (.slice ao r.1.length cap):=cell_of (j:=0) m0 (by show 0<1; omega);have z1:((w1.setCell ⟨w.heap.size,0,none⟩ (.slice ao r.1.length cap)).setCell ⟨w.heap.size+1,0,none⟩ (.int .i64 0)).cell? ⟨w.heap.size+1,0,none⟩=some (.int .i64 0):=cell_of (j:=0) m1 (by show 0<1; omega);have Z0:=O z0;have Z1:=O z1;clear K hf k0 k1 kk m0 m1 m2 m3 m4 aY bD bE z0 z1;go_wp2;refine leaves_cons (f:=186) (args:=#[.pointer (some ⟨w.heap.size,0,none⟩),.pointer (some ⟨w.heap.size+1,0,none⟩)]) (by simp) (by simp [go_sem]) ?_;refine (y1o ⟨w.heap.size,0,none⟩ ⟨w.heap.size+1,0,none⟩ _).mono ?_;rintro e u' w2 ⟨rfl,rfl,rfl⟩;have z0:=V Z0;have z1:=V Z1;clear Z0 Z1 q1 qf;generalize (w1.setCell ⟨w.heap.size,0,none⟩ (.slice ao r.1.length cap)).setCell ⟨w.heap.size+1,0,none⟩ (.int .i64 0)=w9 at *;simp [Leaves,settle,results,Tryz.results149,go_sem,z0,z1];exact HF
end Go.Proofs.YtkglkajjofidoaaGreatDoor
namespace Go.Proofs.YtkglkajjofidoaaGreatDoor.Cn
open Go.Proofs.Tryz
def x6H (lo hi s x:Int):Prop:=lo<=x/\x<=hi/\s∣x - lo
theorem y0S {lo1 hi1 s1 lo2 hi2 s2 c0:Int} {N:Nat} (h1:0<s1) (h2:0<s2) (hN:s2<=N) (ha:lo1<=c0) (hb:lo2<=c0) (hd:s1∣c0 - lo1) (a8:∀ x,lo1<=x->lo2<=x->s1∣x - lo1->c0<=x) :
  (∃ x,x6H lo1 hi1 s1 x/\x6H lo2 hi2 s2 x)↔∃ k:Nat,k<N/\c0+k * s1<=hi1/\c0+k * s1<=hi2/\s2∣c0+k * s1 - lo2:=by
 constructor
 ·rintro ⟨x,⟨a1,a2,a3⟩,b1,b2,b3⟩;have hcx:=a8 x a1 b1 a3
  obtain ⟨j,hj⟩:s1∣x - c0:=by
   have:=Int.dvd_sub a3 hd;rwa [show x - lo1 - (c0 - lo1)=x - c0 by omega] at this
  have bx:0<=j:=by
   rcases Int.lt_or_le j 0 with h | h
   ·have:=Int.mul_neg_of_pos_of_neg h1 h;omega
   ·exact h
  have a6:=Int.emod_nonneg j (show s2≠0 by omega);have hk1:=Int.emod_lt_of_pos j h2
  have bz:j % s2<=j:=by
   have:=Int.emod_add_mul_ediv j s2;have:=Int.mul_nonneg (show 0<=s2 by omega) (Int.ediv_nonneg bx (show 0<=s2 by omega));omega
  have bo:j % s2 * s1<=x - c0:=by
   rw [hj,Int.mul_comm s1 j];exact Int.mul_le_mul_of_nonneg_right bz (by omega)
  refine ⟨(j % s2).toNat,by omega,?_,?_,?_⟩
  ·rw [Int.toNat_of_nonneg a6]; omega
  ·rw [Int.toNat_of_nonneg a6]; omega
  ·rw [Int.toNat_of_nonneg a6]
   have e:c0+j % s2 * s1 - lo2=(x - lo2) - (j - j % s2) * s1:=by
    rw [Int.sub_mul,Int.mul_comm j s1,<- hj];omega
   rw [e];refine Int.dvd_sub b3 (Int.dvd_mul_of_dvd_left ?_);exact Int.dvd_self_sub_emod
 ·rintro ⟨k,_,k1,k2,k3⟩;have hnn:0<=(k:Int) * s1:=Int.mul_nonneg (by omega) (by omega);refine ⟨c0+k * s1,⟨by omega,k1,?_⟩,by omega,k2,k3⟩;rw [show c0+(k:Int) * s1 - lo1=(c0 - lo1)+k * s1 by omega];exact Int.dvd_add hd (Int.dvd_mul_left _ _)
theorem x0A {r:Rec} (h:right r=0) (hk:r.kind≠15) (c:Int):speaks r c=true↔x6H r.lo r.hi (step r) c:=by
 have hs:=right_step h;have hp:=x0o h hk;unfold speaks x6H;rw [decide_eq_true_iff];constructor
 ·rintro ⟨_,_,_,_,h5,h6,h7⟩;exact ⟨h5,h6,Int.dvd_of_emod_eq_zero h7⟩
 ·rintro ⟨h5,h6,h7⟩;exact ⟨hk,by omega,by omega,by omega,h5,h6,Int.emod_eq_zero_of_dvd h7⟩
theorem x5V (b:Rec) {s hi:Int} (hs:0<=s):∀ (n:Nat) (c:Int),clashA b s hi n c=true↔∃ k:Nat,k<n/\c+k * s<=hi/\speaks b (c+k * s)=true
 | 0,c=>by simp [clashA]
 | n+1,c=>by
  rw [clashA];split
  ·next hc =>
   rw [Bool.or_eq_true,x5V b hs n];constructor
   ·rintro (h | ⟨k,h1,h2,h3⟩)
    ·exact ⟨0,by omega,by simpa using hc,by simpa using h⟩
    ·refine ⟨k+1,by omega,?_,?_⟩
     ·rw [show c+((k+1:Nat):Int) * s=c+s+k * s by push_cast; rw [Int.add_mul]; omega]; exact h2
     ·rw [show c+((k+1:Nat):Int) * s=c+s+k * s by push_cast; rw [Int.add_mul]; omega]; exact h3
   ·rintro ⟨k,h1,h2,h3⟩
    cases k with
    | zero=>left; simpa using h3
    | succ k =>
     right;rw [show c+((k+1:Nat):Int) * s=c+s+k * s by push_cast; rw [Int.add_mul]; omega] at h2 h3;exact ⟨k,by omega,h2,h3⟩
  ·next hc =>
   constructor
   ·intro h; cases h
   ·rintro ⟨k,_,h2,_⟩;have:=Int.mul_nonneg (show (0:Int)<=k by omega) hs;omega
theorem y3J {lo1 lo2 s:Int} (h:0<s) {c0:Int} (hc:c0=if lo1<lo2 then lo1+(lo2 - lo1+s - 1) / s * s else lo1) :
  lo1<=c0/\lo2<=c0/\s∣c0 - lo1/\∀ x,lo1<=x->lo2<=x->s∣x - lo1->c0<=x:=by
 by_cases hl:lo1<lo2
 ·rw [if_pos hl] at hc;have e:=Int.emod_add_mul_ediv (lo2 - lo1+s - 1) s;have e0:=Int.emod_nonneg (lo2 - lo1+s - 1) (show s≠0 by omega);have e1:=Int.emod_lt_of_pos (lo2 - lo1+s - 1) h;rw [Int.mul_comm] at e;have hq:s∣(lo2 - lo1+s - 1) / s * s:=Int.dvd_mul_left _ _;generalize (lo2 - lo1+s - 1) / s * s=q at *;subst hc;refine ⟨by omega,by omega,by rw [show lo1+q - lo1=q by omega]; exact hq,fun x a b d=>?_⟩;obtain ⟨j,hj⟩:=Int.dvd_sub hq d;rcases Int.lt_or_le 0 j with h' | h'
  ·have:s * 1<=s * j:=Int.mul_le_mul_of_nonneg_left (by omega) (by omega);omega
  ·have:=Int.mul_nonpos_of_nonneg_of_nonpos (show 0<=s by omega) h';omega
 ·rw [if_neg hl] at hc;subst hc;exact ⟨by omega,by omega,by simp,fun x a _ _=>a⟩
theorem x1z {a b:Rec} (ha:right a=0) (hb:right b=0) (hf:fam a.kind=fam b.kind) (hk:a.kind≠15) (ap:b.kind≠15):clash a b=true↔∃ c,speaks a c=true/\speaks b c=true:=by
 have hsa:=right_step ha;have hsb:=right_step hb;unfold clash;rw [if_neg (by simp [hf]),if_neg hk,x5V b (by omega)];obtain ⟨f1,f2,f3,f4⟩:=y3J (lo1:=a.lo) (lo2:=max a.lo b.lo) (show 0<step a by omega) rfl;generalize (if a.lo<max a.lo b.lo then a.lo+(max a.lo b.lo - a.lo+step a - 1) / step a * step a else a.lo)=c0 at *;have:=y0S (hi1:=a.hi) (hi2:=b.hi) (N:=64) (lo1:=a.lo) (lo2:=b.lo) (s1:=step a) (s2:=step b) (c0:=c0) (by omega) (by omega) (by omega) f1 (by omega) f3 (fun x p q d=>f4 x p (by omega) d);constructor
 ·rintro ⟨k,h1,h2,h3⟩;rw [x0A hb ap] at h3;obtain ⟨x,hx,hy⟩:=this.2 ⟨k,h1,by omega,by omega,h3.2.2⟩;exact ⟨x,(x0A ha hk x).2 hx,(x0A hb ap x).2 hy⟩
 ·rintro ⟨x,hx,hy⟩;obtain ⟨k,h1,h2,h3,h4⟩:=this.1 ⟨x,(x0A ha hk x).1 hx,(x0A hb ap x).1 hy⟩;refine ⟨k,h1,by omega,(x0A hb ap _).2 ⟨?_,h3,h4⟩⟩;have:=Int.mul_nonneg (show (0:Int)<=k by omega) (show 0<=step a by omega);omega
theorem x6C {k:Int} (h:fam k=10):k=15:=by
 unfold fam at h;split at h
 ·omega
 ·split at h
  ·omega
  ·split at h
   ·omega
   ·split at h <;> omega
theorem y1u {a b:Rec} (ha:right a=0) (hb:right b=0):clash a b=clash b a:=by
 by_cases hf:fam a.kind=fam b.kind
 ·by_cases hk:a.kind=15
  ·have ap:b.kind=15:=x6C (by rw [<- hf,hk]; decide);unfold clash;rw [if_neg (by simp [hf]),if_pos hk,if_neg (by simp [hf]),if_pos ap];refine decide_eq_decide.2 ⟨?_,?_⟩
   ·rintro (⟨h1,h2⟩ | ⟨h1,h2⟩)
    ·exact .inl ⟨h1.symm,h2.symm⟩
    ·exact .inr ⟨h2.symm,h1.symm⟩
   ·rintro (⟨h1,h2⟩ | ⟨h1,h2⟩)
    ·exact .inl ⟨h1.symm,h2.symm⟩
    ·exact .inr ⟨h2.symm,h1.symm⟩
  ·have ap:b.kind≠15:=fun e=>hk (x6C (by rw [hf,e]; decide));have h1:=x1z ha hb hf hk ap;have h2:=x1z hb ha hf.symm ap hk;rw [Bool.eq_iff_iff,h1,h2];constructor <;> exact fun ⟨c,p,q⟩=>⟨c,q,p⟩
 ·unfold clash;rw [if_pos hf,if_pos (fun e=>hf e.symm)]
end Go.Proofs.YtkglkajjofidoaaGreatDoor.Cn
namespace Go.Proofs.YtkglkajjofidoaaGreatDoor.Cn
open Go.Proofs.Tryz
theorem getD_at {l:List Rec} {k:Nat} (h:k<l.length):l.getD k none=l[k]:=by simp [List.getD,h]
theorem x5u {l:List Rec}:∀ (n i:Nat),l.length - i=n->i<=l.length->(x1q l i (l.drop i)=Option.none↔∀ j,i<=j->(hj:j<l.length)->∀ k,(hk:k<j)->clash l[k] l[j]=false)
 | 0,i,hn,hi=>by
  rw [List.drop_eq_nil_of_le (by omega),x1q];exact ⟨fun _ j a b=>by omega,fun _=>rfl⟩
 | n+1,i,hn,hi=>by
  have hl:i<l.length:=(by omega);rw [List.drop_eq_getElem_cons hl,x1q];have ih:=x5u (l:=l) n (i+1) (by omega) hl
  have aK:((l.take i).any fun k=>clash k l[i])=true↔∃ k,∃ hk:k<i,clash l[k] l[i]=true:=by
   rw [List.any_eq_true];constructor
   ·rintro ⟨x,hx,hc⟩;obtain ⟨k,hk,rfl⟩:=List.mem_take_iff_getElem.1 hx;exact ⟨k,by omega,hc⟩
   ·rintro ⟨k,hk,hc⟩;exact ⟨l[k],List.mem_take_iff_getElem.2 ⟨k,by omega,rfl⟩,hc⟩
  split
  ·next h =>
   obtain ⟨k,hk,hc⟩:=aK.1 h;exact ⟨fun h=>(by cases h),fun h=>by rw [h i (l0r _) hl k hk] at hc; cases hc⟩
  ·next h =>
   rw [ih];constructor
   ·intro h2 j aM hj k hk;rcases Nat.eq_or_lt_of_le aM with rfl | aM
    ·exact Bool.eq_false_iff.2 fun hc=>h (aK.2 ⟨k,hk,hc⟩)
    ·exact h2 j aM hj k hk
   ·exact fun h2 j aM hj k hk=>h2 j (by omega) hj k hk
theorem x5n:∀ (l:List Rec) (i:Nat),x0T i l=Option.none↔∀ r∈l,right r=0
 | [],_=>⟨fun _ r hr=>absurd hr (by simp),fun _=>rfl⟩
 | x :: l,i=>by
  rw [x0T,List.forall_mem_cons];split
  ·next h=>rw [x5n l]; exact ⟨fun a=>⟨h,a⟩,fun a=>a.2⟩
  ·next h=>exact ⟨fun a=>(by cases a),fun a=>absurd a.1 h⟩
theorem x0n {l:List Rec}:(check6 l).2=0↔l.length<=4096/\(∀ r∈l,right r=0)/\l.Pairwise fun a b=>clash a b=false:=by
 have ht:=x5u (l:=l) l.length 0 (by omega) (by omega);rw [List.drop_zero] at ht;have hr:=x5n l 0;rw [List.pairwise_iff_getElem];unfold check6;split
 ·next h=>exact ⟨fun a=>absurd a (by decide),fun a=>by omega⟩
 ·next h =>
  split
  ·next x hx =>
   refine ⟨fun a=>absurd a (x1R _ _ _ hx),fun a=>?_⟩;rw [hr.2 a.2.1] at hx;cases hx
  ·next hx =>
   split
   ·next i hi =>
    refine ⟨fun a=>absurd a (show ¬ (62:Int)=0 by decide),fun a=>?_⟩;rw [ht.2 fun j _ hj k hk=>a.2.2 k j (by omega) hj hk] at hi;cases hi
   ·next hi=>exact ⟨fun _=>⟨by omega,hr.1 hx,fun k j hk hj h=>ht.1 hi j (by omega) hj k h⟩,fun _=>rfl⟩
theorem x7J (f c:Int):∀ (l:List Rec) (i:Nat),0<=findA f c i l->∃ k,∃ hk:k<l.length,findA f c i l=(i+k:Nat)/\fam l[k].kind=f/\speaks l[k] c=true
 | [],i,h=>by rw [findA] at h; omega
 | r :: l,i,h=>by
  rw [findA] at h ⊢;split
  ·next hr=>exact ⟨0,by simp,by simp,hr.1,hr.2⟩
  ·next hr =>
   rw [if_neg hr] at h;obtain ⟨k,hk,h1,h2,h3⟩:=x7J f c l (i+1) h;exact ⟨k+1,by simp; omega,by rw [h1]; congr 1; omega,h2,h3⟩
theorem x3x (f c:Int):∀ (l:List Rec) (i:Nat),(∃ r∈l,fam r.kind=f/\speaks r c=true)->0<=findA f c i l
 | [],i,⟨r,hr,_⟩=>by cases hr
 | x :: l,i,⟨r,hr,h1,h2⟩=>by
  rw [findA];split
  ·omega
  ·next hx =>
   rcases List.mem_cons.1 hr with rfl | hr
   ·exact absurd ⟨h1,h2⟩ hx
   ·exact x3x f c l (i+1) ⟨r,hr,h1,h2⟩
theorem x1W {l:List Rec} {f c:Int} {r:Rec} (h:hit l f c=some r):r∈l/\fam r.kind=f/\speaks r c=true:=by
 unfold hit at h;split at h
 ·cases h
 ·next hf =>
  cases h;unfold find at hf ⊢;split at hf
  ·omega
  ·next hg =>
   rw [if_neg hg];obtain ⟨k,hk,h1,h2,h3⟩:=x7J f c l 0 (by omega);rw [h1,show ((0+k:Nat):Int).toNat=k by omega,getD_at hk];exact ⟨List.getElem_mem hk,h2,h3⟩
theorem once {l:List Rec} (h:(check6 l).2=0) {f c:Int} {a b:Rec} (ha:a∈l) (hb:b∈l) (fa:fam a.kind=f) (fb:fam b.kind=f) (sa:speaks a c=true) (sb:speaks b c=true):a=b:=by
 obtain ⟨_,hr,hp⟩:=x0n.1 h;rw [List.pairwise_iff_getElem] at hp
 have hk:∀ {x:Rec},speaks x c=true->x.kind≠15:=fun hx=>by
  unfold speaks at hx;exact (o0d hx).1
 obtain ⟨i,hi,rfl⟩:=List.getElem_of_mem ha;obtain ⟨j,hj,rfl⟩:=List.getElem_of_mem hb;rcases Nat.lt_trichotomy i j with h' | rfl | h'
 ·have:=hp i j hi hj h';rw [Bool.eq_false_iff] at this;exact absurd ((x1z (hr _ ha) (hr _ hb) (fa.trans fb.symm) (hk sa) (hk sb)).2 ⟨c,sa,sb⟩) this
 ·rfl
 ·have:=hp j i hj hi h';rw [Bool.eq_false_iff] at this;exact absurd ((x1z (hr _ hb) (hr _ ha) (fb.trans fa.symm) (hk sb) (hk sa)).2 ⟨c,sb,sa⟩) this
theorem x1b {l:List Rec} (h:(check6 l).2=0) {f c:Int} (hf:f≠10/\f≠0) (r:Rec):hit l f c=some r↔r∈l/\fam r.kind=f/\speaks r c=true:=by
 refine ⟨x1W,fun ⟨h1,h2,h3⟩=>?_⟩;have hs:=x3x f c l 0 ⟨r,h1,h2,h3⟩
 have he:hit l f c=some (l.getD (find l f c).toNat none):=by
  unfold hit;rw [if_neg];unfold find;rw [if_neg (by omega)];omega
 obtain ⟨g1,g2,g3⟩:=x1W he;rw [he,once h g1 h1 g2 h2 g3 h3]
theorem y0x {l:List Rec} {f c:Int} (hf:f≠10/\f≠0) (h:hit l f c=Option.none):∀ r∈l,fam r.kind=f->speaks r c=false:=by
 intro r hr h2;refine Bool.eq_false_iff.2 fun h3=>?_;have hs:=x3x f c l 0 ⟨r,hr,h2,h3⟩;unfold hit at h;rw [if_neg] at h
 ·cases h
 ·unfold find;rw [if_neg (by omega)];omega
end Go.Proofs.YtkglkajjofidoaaGreatDoor.Cn
namespace Go.Proofs.YtkglkajjofidoaaGreatDoor.Cn
open Go.Proofs.Tryz
def x5q (a b:Rec):Prop:=a.kind=7/\b.kind=7/\a.to.getD 0 0=b.to.getD 0 0/\a.to.getD 1 0=b.to.getD 1 0
theorem y7k {l:List Rec} {i:Nat} {r:Rec} (h7:r.kind=7):pair l i r=true↔pair l 0 r=true/\∀ k∈l.take i,¬ x5q k r:=by
 unfold pair;rw [Bool.and_eq_true,Bool.and_eq_true];have h0:(!((l.take 0).any fun k=>decide (k.kind=7/\k.to.getD 0 0=r.to.getD 0 0/\k.to.getD 1 0=r.to.getD 1 0)))=true:=by simp
 have hi:(!((l.take i).any fun k=>decide (k.kind=7/\k.to.getD 0 0=r.to.getD 0 0/\k.to.getD 1 0=r.to.getD 1 0)))=true↔∀ k∈l.take i,¬ x5q k r:=by
  rw [Bool.not_eq_true',Bool.eq_false_iff,Ne,List.any_eq_true];constructor
  ·exact fun h k hk ⟨a,_,b,c⟩=>h ⟨k,hk,d0t ⟨a,b,c⟩⟩
  ·rintro h ⟨k,hk,hd⟩;obtain ⟨a,b,c⟩:=o0d hd;exact h k hk ⟨a,h7,b,c⟩
 rw [hi];exact ⟨fun ⟨a,b⟩=>⟨⟨a,h0⟩,b⟩,fun ⟨⟨a,_⟩,b⟩=>⟨a,b⟩⟩
def recF (l:List Rec) (r:Rec) (b:Bool):Int :=
 if fam r.kind≠2/\fam r.kind≠3 then 0
 else if covers r 0 127 then 70
 else if covers r 4352 4370 || covers r 4449 4469 || covers r 4520 4546 || covers r 44032 55203 then 71
 else if r.kind=7/\((jl (r.to.getD 0 0) && jv (r.to.getD 1 0)) || (syl (r.to.getD 0 0) && decide ((r.to.getD 0 0 - 44032) % 28=0) && jt (r.to.getD 1 0)))=true then 71
 else if fam r.kind=2 then 0
 else if (full l r.lo).2≠0 then (full l r.lo).2
 else if fallsA l (full l r.lo).1 then 75
 else if b=true then 74
 else 0
theorem x7e (l:List Rec) (i:Nat) (r:Rec):record l i r=recF l r (decide (r.kind=7/\pair l i r=false)):=by
 unfold record recF;simp only [decide_eq_true_eq]
theorem recF_two {l:List Rec} {r:Rec} (hf:fam r.kind=3):(recF l r true=recF l r false/\recF l r false≠0)\/(recF l r true=74/\recF l r false=0):=by
 unfold recF;have h1:¬ (fam r.kind≠2/\fam r.kind≠3):=fun h=>h.2 hf;have h2:¬ fam r.kind=2:=(by omega);simp only [if_neg h1,if_neg h2,if_true];by_cases c1:covers r 0 127=true
 ·simp [c1]
 ·simp only [if_neg c1];by_cases c2:(covers r 4352 4370 || covers r 4449 4469 || covers r 4520 4546 || covers r 44032 55203)=true
  ·simp only [if_pos c2]; exact .inl ⟨trivial,by decide⟩
  ·simp only [if_neg c2];by_cases c3:r.kind=7/\((jl (r.to.getD 0 0) && jv (r.to.getD 1 0)) || (syl (r.to.getD 0 0) && decide ((r.to.getD 0 0 - 44032) % 28=0) && jt (r.to.getD 1 0)))=true
   ·simp only [if_pos c3]; exact .inl ⟨trivial,by decide⟩
   ·simp only [if_neg c3];by_cases c4:(full l r.lo).2=0
    ·simp only [if_neg (show ¬ (full l r.lo).2≠0 from fun h=>h c4)];by_cases c5:fallsA l (full l r.lo).1=true
     ·simp only [if_pos c5]; exact .inl ⟨trivial,by decide⟩
     ·simp only [if_neg c5]; exact .inr ⟨trivial,by simp⟩
    ·simp only [if_pos (show (full l r.lo).2≠0 from c4)]; exact .inl ⟨trivial,c4⟩
theorem x3D {l:List Rec} {i:Nat} {r:Rec}:record l i r=0↔record l 0 r=0/\∀ k∈l.take i,¬ x5q k r:=by
 rw [x7e,x7e];by_cases h7:r.kind=7
 ·have hp:=y7k (l:=l) (i:=i) h7;have hf:fam r.kind=3:=(by rw [h7]; decide);have e:∀ i,decide (r.kind=7/\pair l i r=false)=!(pair l i r):=fun i=>(by cases pair l i r <;> simp [h7]);rw [e,e];rcases recF_two (l:=l) hf with ⟨h1,h2⟩ | ⟨h1,h2⟩
  ·have:∀ b,recF l r b≠0:=fun b=>(by cases b <;> simp [h1,h2]);exact ⟨fun a=>absurd a (this _),fun a=>absurd a.1 (this _)⟩
  ·have:∀ b,recF l r b=0↔b=false:=fun b=>(by cases b <;> simp [h1,h2]);rw [this,this,Bool.not_eq_false',Bool.not_eq_false'];exact hp
 ·have e:∀ i,decide (r.kind=7/\pair l i r=false)=false:=fun i=>(by simp [h7]);rw [e,e];exact ⟨fun a=>⟨a,fun k _ s=>h7 s.2.1⟩,fun a=>a.1⟩
theorem x3U {l:List Rec}:∀ (m:List Rec) (i:Nat),x0J l i m=Option.none↔∀ j,(hj:j<m.length)->record l (i+j) m[j]=0
 | [],i=>⟨fun _ j hj=>absurd hj (by simp),fun _=>rfl⟩
 | r :: m,i=>by
  rw [x0J];split
  ·next h =>
   rw [x3U m];constructor
   ·intro h2 j hj
    cases j with
    | zero=>exact h
    | succ j =>
     have:=h2 j (by simpa using hj);rwa [show i+1+j=i+(j+1) by omega] at this
   ·intro h2 j hj;have:=h2 (j+1) (by simpa using hj);rwa [show i+(j+1)=i+1+j by omega] at this
  ·next h=>exact ⟨fun a=>(by cases a),fun a=>absurd (a 0 (by simp)) h⟩
theorem x2R {l:List Rec}:∀ (m:List Rec) (i:Nat) (x:Nat × Int),x0J l i m=some x->x.2≠0
 | [],_,_,h=>by rw [x0J] at h; cases h
 | y :: m,i,x,h=>by
  rw [x0J] at h;split at h
  ·exact x2R m (i+1) x h
  ·next hx=>cases h; exact hx
theorem x0D {l:List Rec}:(check l).2=0↔(check6 l).2=0/\(∀ r∈l,record l 0 r=0)/\(l.Pairwise fun a b=>¬ x5q a b)/\baseA l 78 45=true:=by
 have hr:=x3U (l:=l) l 0
 have hx:(∀ j,(hj:j<l.length)->record l (0+j) l[j]=0)↔(∀ r∈l,record l 0 r=0)/\l.Pairwise fun a b=>¬ x5q a b:=by
  rw [List.pairwise_iff_getElem];constructor
  ·intro h;refine ⟨fun r hr=>?_,fun i j hi hj aM=>?_⟩
   ·obtain ⟨j,hj,rfl⟩:=List.getElem_of_mem hr;exact (x3D.1 (h j hj)).1
   ·exact (x3D.1 (h j hj)).2 _ (List.mem_take_iff_getElem.2 ⟨i,by omega,rfl⟩)
  ·rintro ⟨h1,h2⟩ j hj;refine x3D.2 ⟨h1 _ (List.getElem_mem hj),fun k hk=>?_⟩;obtain ⟨i,hi,rfl⟩:=List.mem_take_iff_getElem.1 hk;exact h2 i j (by omega) hj (by omega)
 unfold check;split
 ·next h=>exact ⟨fun a=>absurd a h,fun a=>absurd a.1 h⟩
 ·next h =>
  split
  ·next x hx' =>
   refine ⟨fun a=>absurd a (x2R _ _ _ hx'),fun a=>?_⟩;rw [hr.2 (hx.2 ⟨a.2.1,a.2.2.1⟩)] at hx';cases hx'
  ·next hx' =>
   have h2:=hx.1 (hr.1 hx');split
   ·next hb=>exact ⟨fun _=>⟨Decidable.not_not.1 h,h2.1,h2.2,hb⟩,fun _=>rfl⟩
   ·next hb=>exact ⟨fun a=>absurd a (show ¬ (70:Int)=0 by decide),fun a=>absurd a.2.2.2 hb⟩
theorem y6q {a b:Rec} (ha:right a=0) (hb:right b=0) (h:clash a b=false):clash b a=false:=by rw [y1u hb ha]; exact h
end Go.Proofs.YtkglkajjofidoaaGreatDoor.Cn
namespace Go.Proofs.YtkglkajjofidoaaGreatDoor.Cn
open Go.Proofs.Tryz
def x1l (f:Int) (s:List Rec):Prop:=(∀ r∈s,right r=0/\fam r.kind=f)/\s.Pairwise fun a b=>a.hi<b.lo
def ahead (s:List Rec) (c:Int):Nat:=s.countP fun r=>decide (r.hi<c)
def near (s:List Rec) (c:Int):List Rec:=(s.drop (ahead s c)).take 1
theorem x3p {r:Rec} (h:fam r.kind=2\/fam r.kind=3):step r=1/\r.kind≠15/\r.kind≠4:=by
 have h4:r.kind≠4:=by
  intro e; rw [e] at h; revert h; decide
 have h5:r.kind≠15:=by
  intro e; rw [e] at h; revert h; decide
 exact ⟨by unfold step; rw [if_neg h4],h5,h4⟩
theorem x3H {r:Rec} (h:right r=0) (hf:fam r.kind=2\/fam r.kind=3) (c:Int):speaks r c=true↔r.lo<=c/\c<=r.hi:=by
 obtain ⟨h1,h2,_⟩:=x3p hf;rw [x0A h h2,x6H,h1];constructor
 ·rintro ⟨a,b,_⟩; exact ⟨a,b⟩
 ·rintro ⟨a,b⟩; exact ⟨a,b,Int.one_dvd _⟩
theorem y2b {f:Int} (hf:f=2\/f=3) {s:List Rec} (hr:∀ r∈s,right r=0/\fam r.kind=f) (hc:s.Pairwise fun a b=>clash a b=false) (hs:s.Pairwise fun a b=>a.lo<=b.lo):x1l f s:=by
 refine ⟨hr,?_⟩;have h:=List.pairwise_and_iff.2 ⟨hc,hs⟩;refine h.imp_of_mem fun {a b} ha hb ⟨h1,h2⟩=>?_;obtain ⟨ra,fa⟩:=hr a ha;obtain ⟨rb,fb⟩:=hr b hb;have fa':fam a.kind=2\/fam a.kind=3:=(by omega);have fb':fam b.kind=2\/fam b.kind=3:=(by omega);obtain ⟨_,ka,_⟩:=x3p fa';obtain ⟨_,kb,_⟩:=x3p fb';obtain ⟨_,sb,_⟩:=x0o rb kb;refine Int.not_le.1 fun bo=>?_;have:clash a b=true:=(x1z ra rb (by omega) ka kb).2 ⟨b.lo,(x3H ra fa' _).2 ⟨h2,bo⟩,(x3H rb fb' _).2 ⟨Int.le_refl _,sb⟩⟩;rw [h1] at this;cases this
theorem x6X {s:List Rec} {c:Int} {r:Rec} (h:r∈near s c):r∈s:=List.mem_of_mem_drop (List.mem_of_mem_take h)
theorem y4B {f:Int} (hf:f=2\/f=3):∀ {s:List Rec} (_:x1l f s) {c:Int} {r:Rec} (_:r∈s) (_:r.lo<=c) (_:c<=r.hi),r∈near s c
 | [],_,_,_,h,_,_=>by cases h
 | a :: s,ho,c,r,h,h1,h2=>by
  obtain ⟨hr,hp⟩:=ho;rw [List.pairwise_cons] at hp;by_cases ha:a.hi<c
  ·have ba:r≠a:=by rintro rfl; omega
   have hm:r∈s:=by
    rcases List.mem_cons.1 h with e | e
    ·exact absurd e ba
    ·exact e
   have ih:=y4B hf (s:=s) ⟨fun x hx=>hr x (List.mem_cons_of_mem _ hx),hp.2⟩ hm h1 h2
   have e:ahead (a :: s) c=ahead s c+1:=by
    unfold ahead;rw [List.countP_cons_of_pos (by simpa using ha)]
   unfold near;rw [e,List.drop_succ_cons];exact ih
  ·have hz:ahead (a :: s) c=0:=by
    unfold ahead;rw [List.countP_eq_zero];intro x hx;rcases List.mem_cons.1 hx with rfl | hx'
    ·simpa using ha
    ·have h3:=hp.1 x hx';obtain ⟨rx,fx⟩:=hr x hx;obtain ⟨_,kx,_⟩:=x3p (r:=x) (by omega);have:=x0o rx kx;simp; omega
   have e:r=a:=by
    rcases List.mem_cons.1 h with e | e
    ·exact e
    ·have:=hp.1 r e;omega
   subst e;unfold near;rw [hz];simp
theorem y1W {f:Int} {s:List Rec} (ho:x1l f s) (c:Int):(check6 (near s c)).2=0:=by
 refine x0n.2 ⟨?_,fun r hr=>(ho.1 r (x6X hr)).1,?_⟩
 ·unfold near;rw [List.length_take];omega
 ·have:(near s c).length<=1:=by unfold near; rw [List.length_take]; omega
  match near s c,this with
  | [],_=>exact .nil
  | [_],_=>simp
  | _ :: _ :: _,h=>simp at h
theorem x6W {f:Int} (hf:f=2\/f=3) {l s:List Rec} (hl:(check6 l).2=0) (ho:x1l f s) (hm:∀ r,r∈s↔r∈l/\fam r.kind=f) (c:Int):hit (near s c) f c=hit l f c:=by
 have hf':f≠10/\f≠0:=(by omega);apply Option.ext;intro r;rw [x1b (y1W ho c) hf',x1b hl hf'];constructor
 ·rintro ⟨h1,h2,h3⟩;exact ⟨((hm r).1 (x6X h1)).1,h2,h3⟩
 ·rintro ⟨h1,h2,h3⟩;have hs:=(hm r).2 ⟨h1,h2⟩;have hr:=ho.1 r hs;have:=(x3H hr.1 (by omega) c).1 h3;exact ⟨y4B hf ho hs this.1 this.2,h2,h3⟩
theorem y7d {l s:List Rec} (hl:(check6 l).2=0) (ho:x1l 2 s) (hm:∀ r,r∈s↔r∈l/\fam r.kind=2) (c:Int):cls (near s c) c=cls l c:=by
 unfold cls;rw [x6W (.inl rfl) hl ho hm]
theorem x6Y {l s:List Rec} (hl:(check6 l).2=0) (ho:x1l 3 s) (hm:∀ r,r∈s↔r∈l/\fam r.kind=3) (c:Int):opn (near s c) c=opn l c:=by
 unfold opn;rw [x6W (.inr rfl) hl ho hm]
theorem y4C {l s:List Rec} (hl:(check6 l).2=0) (ho:x1l 3 s) (hm:∀ r,r∈s↔r∈l/\fam r.kind=3) (c:Int):prim (near s c) c=prim l c:=by
 unfold prim;rw [x6Y hl ho hm,x6W (.inr rfl) hl ho hm]
end Go.Proofs.YtkglkajjofidoaaGreatDoor.Cn
namespace Go.Proofs.YtkglkajjofidoaaGreatDoor
open Go.Proofs.Tryz
open Go.RowKit
theorem y1L (x:Int) (w:World):Calls prog 185 #[.int .i64 x] w fun e w'=>e=.returned (.bool false)/\w'=w:=by
 have hx:(x != x)=false:=(by simp);go_enter func185,ntmps185;go_wp2;go_ret;exact ⟨rfl,rfl⟩
theorem x2k (x y:Int) (w:World):Calls prog 144 #[.int .i64 x,.int .i64 y] w fun e w'=>e=.returned (.int .i64 (Lib.compareInt x y))/\w'=w:=by
 have K:=O y1L;have HF:∀ r,r=Lib.compareInt x y->(Ending.returned (.int .i64 r)=.returned (.int .i64 (Lib.compareInt x y))/\w=w):=fun r h=>(by subst h; exact ⟨rfl,rfl⟩);have aR:x<y->Lib.compareInt x y=-1:=fun h=>(by unfold Lib.compareInt; rw [if_pos h]);have aS:y<x->Lib.compareInt x y=1:=fun h=>(by unfold Lib.compareInt; rw [if_neg (by omega),if_pos (by omega)]);have aT:¬ x<y->¬ y<x->Lib.compareInt x y=0:=fun h1 h2=>(by unfold Lib.compareInt; rw [if_neg h1,if_neg (by omega)]);by_cases h1:x<y
 ·rw [aR h1];clear HF aR aS aT;go_enter func144,ntmps144;go_wp2_with (go_at_call 185; refine (V K _ _).mono ?_; rintro e w1 ⟨rfl,rfl⟩);go_ret;exact ⟨rfl,rfl⟩
 ·by_cases h2:y<x
  ·rw [aS h2];clear HF aR aS aT;go_enter func144,ntmps144;go_wp2_with (go_at_call 185; refine (V K _ _).mono ?_; rintro e w1 ⟨rfl,rfl⟩);go_ret;exact ⟨rfl,rfl⟩
  ·rw [aT h1 h2];clear HF aR aS aT;go_enter func144,ntmps144;go_wp2_with (go_at_call 185; refine (V K _ _).mono ?_; rintro e w1 ⟨rfl,rfl⟩);go_ret;exact ⟨rfl,rfl⟩
theorem x9x (r:Rec) (vt:Value) (c:Int) (w:World):Calls prog 224 #[recV r vt,.int .i64 c] w fun e w'=>e=.returned (.int .i64 (Lib.compareInt r.hi c))/\Bw w w':=by
 have K:=O (fun W=>x2k r.hi c W);unfold recV;have HB:∀ o,Bw w (w.alloc o):=fun o=>(b0r).alloc (l0r _) _;have bt:=O HB;clear HB;generalize Lib.compareInt r.hi c=z at *;go_enter func224,ntmps224;go_wp2_with fail;refine (V K _).mono ?_;rintro e w1 ⟨rfl,rfl⟩;clear K;go_wp2;go_ret;exact ⟨rfl,V bt _⟩
def Bdry (s:List Rec) (c:Int) (lo hi:Nat):Prop:=(∀ t,t<lo->(s.getD t Cn.none).hi<c)/\(∀ t,hi<=t->t<s.length->¬ (s.getD t Cn.none).hi<c)
def x8U (w:World) (s:List Rec) (c:Int) (e:Ending) (w':World):Prop:=∃ (k:Nat) (b:Bool),e=.returned (.tuple #[.int .i64 k,.bool b])/\Below w.heap.size w w'/\k<=s.length/\Bdry s c k k
theorem y2t (v:Value) (s:List Rec) (c:Int) (w:World) (hv:Rcs w v s) (ak:∀ a b,a<=b->b<s.length->(s.getD b Cn.none).hi<c->(s.getD a Cn.none).hi<c) :
  Calls prog 223 #[v,.int .i64 c,.func (.func 224) #[] #[]] w (x8U w s c):=by
 have eg:∀ args w,(callFunc 224 args).run prog w=.ok (.enter 224 args) w:=enters_of func224 (by kernel_rfl) rfl;have KN:=O (fun r vt W=>x9x r vt c W);have HM:=O ak;have aq:=hv.1;rcases Nat.eq_zero_or_pos s.length with n0 | n0
 ·obtain ⟨ao,cap,rfl,_,_⟩:=hv.shape;have bu:x8U w s c (.returned (.tuple #[.int .i64 0,.bool false])) w:=⟨0,false,rfl,b0r,by omega,fun t ht=>by omega,fun t _ ht=>by omega⟩;rw [n0];clear hv ak;go_enter func223,ntmps223;go_wp2;refine wp_loop_rounds 1 ?_;rw [rounds_succ];go_wp2;go_ret2;exact bu
 ·obtain ⟨b,off,cap,rfl,bA,bB,aj⟩:=hv.place n0;have HC:Hid (∀ i,i<s.length->∀ W,Bw w W->RecAt W b (off+i * 8) (s.getD i Cn.none)):=fun i hi W hb=>(aj i hi).below hb;clear hv aj ak;go_enter func223,ntmps223;go_wp2;go_loopw [9,10,11] (fun i j _ wr=>∃ lo hi:Nat,i=.int .i64 lo/\j=.int .i64 hi/\lo<=hi/\hi<=s.length/\Bw w wr/\Hid (Bdry s c lo hi)) (fun i j _ _=>(intOf j).toNat - (intOf i).toNat)
  case atStart=>exact ⟨0,s.length,rfl,rfl,by omega,by omega,b0r,⟨fun t ht=>by omega,fun t h1 h2=>by omega⟩⟩
  case round =>
   obtain ⟨lo,hi,rfl,rfl,hlh,bw,ad,I⟩:=hrel;by_cases hlt:lo<hi
   ·have aN:(lo+hi) / 2<s.length:=(by omega);have ay:=V HC ((lo+hi) / 2) aN wr ad;obtain ⟨x0,x1,x2,x3,⟨vt,x4,ar⟩,x5,x6,x7⟩:=ay;obtain ⟨bi,az,rfl,_,_⟩:=ar.shape;have KC:=O (V KN (s.getD ((lo+hi) / 2) Cn.none) (.slice bi (s.getD ((lo+hi) / 2) Cn.none).to.length az) wr);unfold recV at KC
    have aZ:Hid ((s.getD ((lo+hi) / 2) Cn.none).hi<c->Bdry s c ((lo+hi) / 2+1) hi):=fun h =>
     ⟨fun t ht=>V HM t ((lo+hi) / 2) (by omega) aN h,(V I).2⟩
    have a5:Hid (¬ (s.getD ((lo+hi) / 2) Cn.none).hi<c->Bdry s c lo ((lo+hi) / 2)):=fun h =>
     ⟨(V I).1,fun t ht htn h2=>h (V HM ((lo+hi) / 2) t ht htn h2)⟩
    have bl:∀ z,Lib.compareInt z c<0↔z<c:=fun z=>(by unfold Lib.compareInt; split <;> (try split) <;> omega);have aX:=bl (s.getD ((lo+hi) / 2) Cn.none).hi;generalize s.getD ((lo+hi) / 2) Cn.none=r at *;clear HC KN HM I ar bl;by_cases hz:r.hi<c
    ·have bc:=aX.2 hz;have HI:=O (V aZ hz);clear aZ a5 aX hz;generalize Lib.compareInt r.hi c=z at *;go_wp2_with fail;refine (V KC).mono ?_;rintro e w1 ⟨rfl,aa⟩;have af:=x0b ad aa;clear KC aa ad x0 x1 x2 x3 x4 x5 x6 x7;go_wp2
     go_roundw
     case rel=>exact ⟨(lo+hi) / 2+1,hi,by go_num,rfl,by omega,by omega,af,HI⟩
     case measure=>simp [intOf]; omega
    ·have bc:¬ Lib.compareInt r.hi c<0:=fun h=>hz (aX.1 h);have HI:=O (V a5 hz);clear aZ a5 aX hz;generalize Lib.compareInt r.hi c=z at *;go_wp2_with fail;refine (V KC).mono ?_;rintro e w1 ⟨rfl,aa⟩;have af:=x0b ad aa;clear KC aa ad x0 x1 x2 x3 x4 x5 x6 x7;go_wp2
     go_roundw
     case rel=>exact ⟨lo,(lo+hi) / 2,rfl,by go_num,by omega,by omega,af,HI⟩
     case measure=>simp [intOf]; omega
   ·obtain rfl:hi=lo:=(by omega);have aF:Hid (∀ (b:Bool) W,Bw w W->x8U w s c (.returned (.tuple #[.int .i64 (hi:Int),.bool b])) W):=fun b W h=>⟨hi,b,rfl,h,bw,V I⟩;by_cases hn:hi<s.length
    ·have ay:=V HC hi hn wr ad;obtain ⟨x0,x1,x2,x3,⟨vt,x4,ar⟩,x5,x6,x7⟩:=ay;obtain ⟨bi,az,rfl,_,_⟩:=ar.shape;have KC:=O (V KN (s.getD hi Cn.none) (.slice bi (s.getD hi Cn.none).to.length az) wr);unfold recV at KC;generalize s.getD hi Cn.none=r at x0 x1 x2 x3 x4 x5 x6 x7 KC;clear HC KN HM I ar;generalize Lib.compareInt r.hi c=z at *;go_wp2_with fail;refine (V KC).mono ?_;rintro e w1 ⟨rfl,aa⟩;have af:=x0b ad aa;clear KC aa ad x0 x1 x2 x3 x4 x5 x6 x7;go_wp2;go_ret2;exact V aF _ _ af
    ·clear HC KN HM I;go_wp2;go_ret2;exact V aF _ _ ad
theorem Rcs.sub {w:World} {ao:Option Addr} {len cap k:Nat} {s:List Rec} (h:Rcs w (.slice ao len cap) s) (hl:s.length=len) (hk:k<len):∃ b off,ao=some ⟨b,off,none⟩/\Rcs w (.slice (some ⟨b,off+k * 8,none⟩) 1 (cap - k)) ((s.drop k).take 1):=by
 obtain ⟨h1,h2,h3⟩:=h;rcases h3 with ⟨rfl,ao',cap',hv,hm⟩ | ⟨b,off,cap',hv,hl',hm,hc⟩
 ·simp at hl; omega
 ·simp only [Value.slice.injEq] at hv;obtain ⟨rfl,e,rfl⟩:=hv;have bd:((s.drop k).take 1).length=1:=(by simp; omega);refine ⟨b,off,rfl,by omega,fun r hr=>h2 r (List.mem_of_mem_drop (List.mem_of_mem_take hr)),.inr ⟨b,off+k * 8,cap - k,by rw [bd],by omega,by omega,fun i hi=>?_⟩⟩;obtain rfl:i=0:=(by omega);have:=hc k (by omega);rw [show ((s.drop k).take 1).getD 0 Cn.none=s.getD k Cn.none by simp [List.getD],Nat.zero_mul,Nat.add_zero];exact this
theorem y1h {s:List Rec} {c:Int}:∀ {k:Nat},k<=s.length->Bdry s c k k->Cn.ahead s c=k:=by
 induction s with
 | nil=>intro k hk _; simp at hk; subst hk; rfl
 | cons a s ih =>
  intro k hk ⟨h1,h2⟩
  cases k with
  | zero =>
   unfold Cn.ahead;rw [List.countP_eq_zero];intro x hx;obtain ⟨t,ht,rfl⟩:=List.getElem_of_mem hx;have:=h2 t (Nat.zero_le _) ht;rw [show (a :: s).getD t Cn.none=(a :: s)[t] from by rw [List.getD_eq_getElem?_getD,List.getElem?_eq_getElem ht]; rfl] at this;simpa using this
  | succ k =>
   have h0:a.hi<c:=(by simpa using h1 0 (by omega));have:Cn.ahead s c=k:=ih (by simpa using hk) ⟨fun t ht=>by simpa using h1 (t+1) (by omega),fun t ht htl=>by simpa using h2 (t+1) (by omega) (by simp; omega)⟩;unfold Cn.ahead at this ⊢;rw [List.countP_cons_of_pos (by simpa using h0),this]
theorem x8h {f:Int} (hf:f=2\/f=3) {s:List Rec} (ho:Cn.x1l f s) (c:Int):∀ a b,a<=b->b<s.length->(s.getD b Cn.none).hi<c->(s.getD a Cn.none).hi<c:=by
 intro a b bv hb h;rcases Nat.lt_or_eq_of_le bv with hlt | rfl
 ·have hp:=List.pairwise_iff_getElem.1 ho.2 a b (by omega) hb hlt;have eb:s.getD b Cn.none=s[b]:=(by simp [List.getD,hb]);have ea:s.getD a Cn.none=s[a]:=(by simp [List.getD,show a<s.length by omega]);rw [eb] at h;rw [ea];obtain ⟨rb,fb⟩:=ho.1 s[b] (List.getElem_mem hb);obtain ⟨_,kb,_⟩:=Cn.x3p (r:=s[b]) (by omega);have:=Cn.x0o rb kb;omega
 ·exact h
def y8P (w0 w:World) (s:List Rec) (e:Ending) (w':World):Prop:=∃ v,e=.returned v/\Rcs w0 v s/\Below w.heap.size w w'
theorem x6V (v:Value) (s:List Rec) (c f:Int) (hf:f=2\/f=3) (w0 w:World) (hv:Rcs w0 v s) (hw:Bw w0 w) (ho:Cn.x1l f s) (hc:Rune c):Calls prog 189 #[v,.int .i32 c] w (y8P w0 w (Cn.near s c)):=by
 have K:=O (y2t v s c w (hv.below hw) (x8h hf ho c));have aq:=hv.1;obtain ⟨ao,cap,rfl,bA,bB⟩:=hv.shape;obtain ⟨c0,c1⟩:=hc;have HV:=O hv;clear hv ho hw;go_enter func189,ntmps189;go_wp2_with fail;refine (V K).mono ?_;rintro e w1 ⟨k,b,rfl,aa,hk,hbd⟩;have ha:=y1h hk hbd;clear K hbd;by_cases hlt:k<s.length
 ·obtain ⟨bb,off,rfl,aP⟩:=(V HV).sub rfl hlt;have HF:y8P w0 w (Cn.near s c) (.returned (.slice (some ⟨bb,off+k * 8,none⟩) 1 (cap - k))) w1:=⟨_,rfl,by unfold Cn.near; rw [ha]; exact aP,aa⟩;have bC:min ((k:Int)+1) (s.length:Int)=(k:Int)+1:=(by omega);have hck:¬ cap - k=0:=(by omega);clear HV aP ha aa;go_wp2;go_ret;exact HF
 ·obtain rfl:k=s.length:=(by omega);have HF:∀ ao' m,m<=9223372036854775807->y8P w0 w (Cn.near s c) (.returned (.slice ao' 0 m)) w1:=fun ao' m hm=>⟨_,rfl,by unfold Cn.near; rw [ha,List.drop_length]; exact ⟨by simp,fun _ h=>(by cases h),.inl ⟨rfl,ao',_,rfl,hm⟩⟩,aa⟩;have bC:min ((s.length:Int)+1) (s.length:Int)=(s.length:Int):=(by omega);clear HV ha aa;go_wp2
  all_goals
   go_ret;exact HF _ _ (by omega)
structure Idx (l:List Rec) (w0:World) (cv ov:Value) (cs os:List Rec):Prop where
 rc:Rcs w0 cv cs
 ro:Rcs w0 ov os
 oc:Cn.x1l 2 cs
 oo:Cn.x1l 3 os
 mc:∀ r,r∈cs↔r∈l/\Cn.fam r.kind=2
 mo:∀ r,r∈os↔r∈l/\Cn.fam r.kind=3
 ok:(Cn.check6 l).2=0
theorem Idx.below {l:List Rec} {w0 w1:World} {cv ov:Value} {cs os:List Rec} (h:Idx l w0 cv ov cs os) (hb:Bw w0 w1):Idx l w1 cv ov cs os:={ h with rc:=h.rc.below hb,ro:=h.ro.below hb }
def xV (cv ov mv:Value):Value:=.agg #[cv,ov,mv]
theorem x6r (l cs os:List Rec) (cv ov:Value) (mr:Nat) (c:Int) (w:World) (hg:Glob w) (h:Idx l w cv ov cs os) (hc:Rune c):Calls prog 151 #[xV cv ov (.map (some mr)),.int .i32 c] w (IntB w (Cn.cls l c)):=by
 obtain ⟨ag,ab,rfl,_,_⟩:=h.rc.shape;obtain ⟨ai,ac,rfl,_,_⟩:=h.ro.shape;have hb:Bw w (w.alloc (.cells #[.slice ag cs.length ab,.slice ai os.length ac,.map (some mr)] 118)):=(b0r).alloc (l0r _) _;have K:=O (x6V _ cs c 2 (.inl rfl) w _ h.rc hb h.oc hc);have K2:=O (fun W v' (hb:Bw w W) (hv:Rcs w v' (Cn.near cs c))=>z1i v' (Cn.near cs c) c W (hg.on hb) (hv.below hb) hc);rw [Cn.y7d h.ok h.oc h.mc] at K2;generalize Cn.cls l c=z at *;unfold xV;clear h hg;go_enter func151,ntmps151;go_wp2_with fail;refine (V K).mono ?_;rintro e w1 ⟨v1,rfl,hv1,aa⟩;have KK:=O (V K2 w1 v1 (x0b hb aa) hv1);have ah:=x0b hb aa;obtain ⟨br,aQ,rfl,_,_⟩:=hv1.shape;clear K K2 hv1 hb aa;go_wp2_with fail;refine (V KK).mono ?_;rintro e w2 ⟨rfl,av⟩;have HF:IntB w z (.returned (.int .i64 z)) w2:=⟨rfl,x0b ah av⟩;clear KK ah av;go_wp2;go_ret;exact HF
theorem x8P (l cs os:List Rec) (cv ov:Value) (mr:Nat) (c:Int) (w0 w:World) (hg:Glob w0) (h:Idx l w0 cv ov cs os) (hw:Bw w0 w) (hc:Rune c):Calls prog 150 #[xV cv ov (.map (some mr)),.int .i32 c] w (OpB w0 w (Cn.opn l c)):=by
 obtain ⟨ag,ab,rfl,_,_⟩:=h.rc.shape;obtain ⟨ai,ac,rfl,_,_⟩:=h.ro.shape;have hb:Bw w (w.alloc (.cells #[.slice ag cs.length ab,.slice ai os.length ac,.map (some mr)] 118)):=(b0r).alloc (l0r _) _;have K:=O (x6V _ os c 3 (.inr rfl) w0 _ h.ro (hw.trans (hb.mono hw.size)) h.oo hc);have K2:=O (fun W v' (hb:Bw w W) (hv:Rcs w0 v' (Cn.near os c))=>x6g v' (Cn.near os c) c w0 W ((hg.on hw).on hb) hv (hw.trans (hb.mono hw.size)) hc);rw [Cn.x6Y h.ok h.oo h.mo] at K2;generalize Cn.opn l c=z at *;unfold xV;clear h hg hw;go_enter func150,ntmps150;go_wp2_with fail;refine (V K).mono ?_;rintro e w1 ⟨v1,rfl,hv1,aa⟩;have KK:=O (V K2 w1 v1 (x0b hb aa) hv1);have ah:=x0b hb aa;obtain ⟨br,aQ,rfl,_,_⟩:=hv1.shape;clear K K2 hv1 hb aa;go_wp2_with fail;refine (V KK).mono ?_;rintro e w2 ⟨v2,rfl,hk,av⟩;have HF:OpB w0 w z (.returned v2) w2:=⟨v2,rfl,hk.imp id (fun h=>h.lower ah.size),x0b ah av⟩;clear KK ah av hk;go_wp2;go_ret;exact HF
theorem y5S (l cs os:List Rec) (cv ov:Value) (mr:Nat) (c:Int) (w:World) (hg:Glob w) (h:Idx l w cv ov cs os) (hc:Rune c):Calls prog 152 #[xV cv ov (.map (some mr)),.int .i32 c] w (x0d w (Cn.prim l c).isSome):=by
 obtain ⟨ag,ab,rfl,_,_⟩:=h.rc.shape;obtain ⟨ai,ac,rfl,_,_⟩:=h.ro.shape;have hb:Bw w (w.alloc (.cells #[.slice ag cs.length ab,.slice ai os.length ac,.map (some mr)] 118)):=(b0r).alloc (l0r _) _;have K:=O (x6V _ os c 3 (.inr rfl) w _ h.ro hb h.oo hc);have K2:=O (fun W v' (hb:Bw w W) (hv:Rcs w v' (Cn.near os c))=>primC v' (Cn.near os c) c W (hg.on hb) (hv.below hb) hc);rw [Cn.y4C h.ok h.oo h.mo] at K2;generalize Cn.prim l c=z at *;unfold xV;clear h hg;go_enter func152,ntmps152;go_wp2_with fail;refine (V K).mono ?_;rintro e w1 ⟨v1,rfl,hv1,aa⟩;have KK:=O (V K2 w1 v1 (x0b hb aa) hv1);have ah:=x0b hb aa;obtain ⟨br,aQ,rfl,_,_⟩:=hv1.shape;clear K K2 hv1 hb aa;go_wp2_with fail;refine (V KK).mono ?_;rintro e w2 ⟨rfl,av⟩;have HF:x0d w z.isSome (.returned (.bool z.isSome)) w2:=⟨rfl,x0b ah av⟩;clear KK ah av;generalize z.isSome=zb at *;generalize (z.map (·.1)).getD 0=za at *;generalize (z.map (·.2)).getD 0=zc at *;go_wp2;go_ret;exact HF
theorem z2J (l cs os:List Rec) (cv ov:Value) (mr:Nat) (w:World) (hg:Glob w) (h:Idx l w cv ov cs os):x8S 150 #[xV cv ov (.map (some mr))] #[] l w :=
 fun c W hW hc=>x8P l cs os cv ov mr c w W hg h hW hc
theorem idx_len {l cs os:List Rec} {cv ov:Value} {w:World} (h:Idx l w cv ov cs os) (c:Int):(Cn.opn l c).length<=1000000000:=by
 rw [<- Cn.x6Y h.ok h.oo h.mo];unfold Cn.opn;split
 ·split <;> simp
 ·cases hh:Cn.hit (Cn.near os c) 3 c with
  | none=>simp
  | some r =>
   obtain ⟨h1,_,_⟩:=Cn.x1W hh;exact (h.ro.2.1 r (Cn.x6X h1)).len
theorem y5R (l cs os:List Rec) (cv ov:Value) (mr:Nat) (c:Int) (w:World) (hg:Glob w) (h:Idx l w cv ov cs os) (hc:Rune c):Calls prog 149 #[.func (.func 150) #[xV cv ov (.map (some mr))] #[],.int .i32 c] w (x5y w (Cn.full l c)) :=
 fullK 150 _ _ l w (z2J l cs os cv ov mr w hg h) (enters_of func150 (by kernel_rfl) rfl) (idx_len h) c hc
theorem hmeets_any (b:Nat) (r:Rec) (x y:Int) (w:World) (h1:w.cell? ⟨b,1,none⟩=some (.int .i64 r.lo)) (h2:w.cell? ⟨b,2,none⟩=some (.int .i64 r.hi)):Calls prog 145 #[.int .i64 x,.int .i64 y,.pointer (some ⟨b,0,none⟩)] w fun e w'=>e=.returned (.bool (Cn.covers r x y))/\w'=w:=by
 unfold Cn.covers;by_cases q1:r.lo<=y
 ·by_cases q2:x<=r.hi
  ·rw [d0t ⟨q1,q2⟩];generalize r.lo=lo at *;generalize r.hi=hi at *;go_enter func145,ntmps145;go_wp2;go_ret;exact ⟨rfl,rfl⟩
  ·rw [d0f (fun h=>q2 h.2)];have d2:decide (x<=r.hi)=false:=d0f q2;generalize r.lo=lo at *;generalize r.hi=hi at *;go_enter func145,ntmps145;go_wp2;go_ret;exact ⟨rfl,rfl⟩
 ·rw [d0f (fun h=>q1 h.1)];generalize r.lo=lo at *;generalize r.hi=hi at *;go_enter func145,ntmps145;go_wp2;go_ret;exact ⟨rfl,rfl⟩
def touches (r:Rec):Bool:=Cn.covers r 4352 4370 || Cn.covers r 4449 4469 || Cn.covers r 4520 4546 || Cn.covers r 44032 55203
theorem x2Y (r:Rec) (ao:Option Addr) (len cap:Nat) (w:World):Calls prog 112 #[recV r (.slice ao len cap)] w (x0d w (touches r)):=by
 have hb:Bw w (w.alloc (.cells #[.int .i64 r.kind,.int .i64 r.lo,.int .i64 r.hi,.int .i64 r.n,.slice ao len cap,.string r.name,.string r.other,.float .f64 r.wt] 50)):=(b0r).alloc (l0r _) _;have K:=O (fun x y=>hmeets_any w.heap.size r x y (w.alloc (.cells #[.int .i64 r.kind,.int .i64 r.lo,.int .i64 r.hi,.int .i64 r.n,.slice ao len cap,.string r.name,.string r.other,.float .f64 r.wt] 50)) (by simp) (by simp));have eg:∀ args w,(callFunc 145 args).run prog w=.ok (.enter 145 args) w:=enters_of func145 (by kernel_rfl) rfl;have bp:∀ (fn:Fn) (first cap:Array Value) (w:World),(Instr.makeFunc fn first cap).run prog w=.ok (.func fn first cap) w:=fun _ _ _ _=>rfl;have HB:=O hb;clear hb;have K1:=O (V K 4352 4370);have K2:=O (V K 4449 4469);have K3:=O (V K 4520 4546);have K4:=O (V K 44032 55203);have e0:touches r=(Cn.covers r 4352 4370 || Cn.covers r 4449 4469 || Cn.covers r 4520 4546 || Cn.covers r 44032 55203):=rfl;rw [e0];clear K e0;generalize Cn.covers r 4352 4370=c1 at *;generalize Cn.covers r 4449 4469=c2 at *;generalize Cn.covers r 4520 4546=c3 at *;generalize Cn.covers r 44032 55203=c4 at *;unfold recV;cases c1
 ·cases c2
  ·cases c3
   ·rw [show (false || false || false || c4)=c4 by simp];go_enter func112,ntmps112;go_wp2_with fail;refine (V K1).mono ?_;rintro e w1 ⟨rfl,rfl⟩;go_wp2_with fail;refine (V K2).mono ?_;rintro e w1 ⟨rfl,rfl⟩;go_wp2_with fail;refine (V K3).mono ?_;rintro e w1 ⟨rfl,rfl⟩;go_wp2_with fail;refine (V K4).mono ?_;rintro e w1 ⟨rfl,rfl⟩;clear K1 K2 K3 K4;go_wp2;go_ret;exact ⟨rfl,V HB⟩
   ·rw [show (false || false || true || c4)=true by simp];go_enter func112,ntmps112;go_wp2_with fail;refine (V K1).mono ?_;rintro e w1 ⟨rfl,rfl⟩;go_wp2_with fail;refine (V K2).mono ?_;rintro e w1 ⟨rfl,rfl⟩;go_wp2_with fail;refine (V K3).mono ?_;rintro e w1 ⟨rfl,rfl⟩;clear K1 K2 K3 K4;go_wp2;go_ret;exact ⟨rfl,V HB⟩
  ·rw [show (false || true || c3 || c4)=true by simp];go_enter func112,ntmps112;go_wp2_with fail;refine (V K1).mono ?_;rintro e w1 ⟨rfl,rfl⟩;go_wp2_with fail;refine (V K2).mono ?_;rintro e w1 ⟨rfl,rfl⟩;clear K1 K2 K3 K4;go_wp2;go_ret;exact ⟨rfl,V HB⟩
 ·rw [show (true || c2 || c3 || c4)=true by simp];go_enter func112,ntmps112;go_wp2_with fail;refine (V K1).mono ?_;rintro e w1 ⟨rfl,rfl⟩;clear K1 K2 K3 K4;go_wp2;go_ret;exact ⟨rfl,V HB⟩
def makes (a b:Int):Bool:=(Cn.jl a && Cn.jv b) || (Cn.syl a && decide ((a - 44032) % 28=0) && Cn.jt b)
theorem y4t (a b:Int) (w:World):Calls prog 113 #[.int .i32 a,.int .i32 b] w fun e w'=>e=.returned (.bool (makes a b))/\w'=w:=by
 have K0:=O (x4U a w);by_cases hs:Cn.syl a=true
 ·have aO:44032<=a/\a<=55203:=(by unfold Cn.syl at hs; simpa using hs);rw [hs] at K0;have K1:=O (y0Z a w aO);have K2:=O (x2D b 4520 4546 w)
  have e:makes a b=(decide ((a - 44032) % 28=0) && decide (4520<=b/\b<=4546)):=by
   unfold makes;rw [hs,show Cn.jl a=false by unfold Cn.jl; exact d0f (by omega)];simp [Cn.jt]
  rw [e];generalize decide (4520<=b/\b<=4546)=z at *;clear e hs;by_cases h0:(a - 44032) % 28=0
  ·rw [d0t h0,Bool.true_and];rw [h0] at K1;go_enter func113,ntmps113;go_wp2_with fail;refine (V K0).mono ?_;rintro e w1 ⟨rfl,au⟩;subst w1;go_wp2_with fail;refine (V K1).mono ?_;rintro e w1 ⟨rfl,au⟩;subst w1;go_wp2_with fail;refine (V K2).mono ?_;rintro e w1 ⟨rfl,au⟩;subst w1;clear K0 K1 K2;go_wp2;go_ret;exact ⟨rfl,rfl⟩
  ·rw [d0f h0,Bool.false_and];generalize (a - 44032) % 28=t at *;have ht:(t==0)=false:=b0f h0;clear h0;go_enter func113,ntmps113;go_wp2_with fail;refine (V K0).mono ?_;rintro e w1 ⟨rfl,au⟩;subst w1;go_wp2_with fail;refine (V K1).mono ?_;rintro e w1 ⟨rfl,au⟩;subst w1;clear K0 K1 K2;go_wp2;go_ret;exact ⟨rfl,rfl⟩
 ·have aO:Cn.syl a=false:=(by simpa using hs);rw [aO] at K0;have K1:=O (x2D a 4352 4370 w);have K2:=O (x2D b 4449 4469 w)
  have e:makes a b=(decide (4352<=a/\a<=4370) && decide (4449<=b/\b<=4469)):=by
   unfold makes;rw [aO];simp [Cn.jl,Cn.jv]
  rw [e];generalize decide (4352<=a/\a<=4370)=y at *;generalize decide (4449<=b/\b<=4469)=z at *;clear e hs aO;cases y
  ·rw [Bool.false_and];go_enter func113,ntmps113;go_wp2_with fail;refine (V K0).mono ?_;rintro e w1 ⟨rfl,au⟩;subst w1;go_wp2_with fail;refine (V K1).mono ?_;rintro e w1 ⟨rfl,au⟩;subst w1;clear K0 K1 K2;go_wp2;go_ret;exact ⟨rfl,rfl⟩
  ·rw [Bool.true_and];go_enter func113,ntmps113;go_wp2_with fail;refine (V K0).mono ?_;rintro e w1 ⟨rfl,au⟩;subst w1;go_wp2_with fail;refine (V K1).mono ?_;rintro e w1 ⟨rfl,au⟩;subst w1;go_wp2_with fail;refine (V K2).mono ?_;rintro e w1 ⟨rfl,au⟩;subst w1;clear K0 K1 K2;go_wp2;go_ret;exact ⟨rfl,rfl⟩
namespace Cn
theorem x9K {r:Rec} (h:right r=0) (h6:r.kind=6):1<=r.n/\r.n<=254:=by
 have hf:=x0H h;unfold right at h;rw [if_neg hf,if_neg (by omega)] at h;have hc:=x1Y h;rw [Bool.and_eq_true,if_neg (by omega),if_neg (by omega),if_neg (by omega),if_neg (by omega),if_neg (by omega),if_pos h6] at hc;have h2:=hc.2;simp only [Bool.and_eq_true] at h2;exact o0d h2.2
theorem y9k {l:List Rec} (h:(check6 l).2=0) (c:Int):0<=cls l c:=by
 unfold cls
 cases hh:hit l 2 c with
 | none=>simp
 | some r =>
  obtain ⟨h1,h2,_⟩:=x1W hh;have hr:=(x1u h).2 r h1
  have hk:r.kind=6:=by
   revert h2;unfold fam;split
   ·intro e; omega
   ·split
    ·intro e; omega
    ·split
     ·intro _; assumption
     ·split <;> (intro e; omega)
  have:=x9K hr hk;simp only;omega
def x1N (l:List Rec):Int->List Int->Bool
 | _,[]=>false
 | a,b :: r=>decide (cls l b≠0/\cls l b<a) || x1N l (cls l b) r
theorem y3B (l:List Rec):∀ (a:Int) (r:List Int),fallsA l (a :: r)=x1N l (cls l a) r
 | _,[]=>rfl
 | a,b :: r=>by rw [fallsA,x1N,y3B l b r]
theorem y9r {l:List Rec} (h:(check6 l).2=0):∀ x:List Int,fallsA l x=x1N l 0 x
 | []=>rfl
 | a :: r=>by
  rw [y3B,x1N,d0f (fun q=>by have:=y9k h a; omega),Bool.false_or]
theorem x9i {l:List Rec} {a:Int} {x:List Int} {k:Nat} (hk:k<x.length):x1N l a (x.drop k)=(decide (cls l (x.getD k 0)≠0/\cls l (x.getD k 0)<a) || x1N l (cls l (x.getD k 0)) (x.drop (k+1))):=by
 rw [List.drop_eq_getElem_cons hk,x1N];simp [List.getD,hk]
def wfull (l:List Rec) (c:Int):Int:=if (full l c).2≠0 then (full l c).2 else if fallsA l (full l c).1 then 75 else 0
end Cn
theorem x8O (l cs os:List Rec) (cv ov:Value) (mr:Nat) (c:Int) (w:World) (hg:Glob w) (h:Idx l w cv ov cs os) (hc:Rune c):Calls prog 114 #[xV cv ov (.map (some mr)),.int .i32 c] w (IntB w (Cn.wfull l c)):=by
 obtain ⟨ag,ab,rfl,_,_⟩:=h.rc.shape;obtain ⟨ai,ac,rfl,_,_⟩:=h.ro.shape;have hb:Bw w (w.alloc (.cells #[.slice ag cs.length ab,.slice ai os.length ac,.map (some mr)] 118)):=(b0r).alloc (l0r _) _;have K:=O (y5R l cs os _ _ mr c _ (hg.on hb) (h.below hb) hc);have KC:=O (fun W x (hW:Bw w W) (hx:Rune x)=>x6r l cs os _ _ mr x W (hg.on hW) (h.below hW) hx)
 have HX:Hid (∀ W,Below (w.heap.size+1) (w.alloc (.cells #[.slice ag cs.length ab,.slice ai os.length ac,.map (some mr)] 118)) W->W.cell? ⟨w.heap.size,0,none⟩=some (.slice ag cs.length ab)/\W.cell? ⟨w.heap.size,1,none⟩=some (.slice ai os.length ac)/\W.cell? ⟨w.heap.size,2,none⟩=some (.map (some mr))):=fun W hW=>by
  refine ⟨?_,?_,?_⟩
  all_goals
   rw [hW.cell (by show w.heap.size<_; omega)];simp
 have bp:∀ (fn:Fn) (first cap:Array Value) (w:World),(Instr.makeFunc fn first cap).run prog w=.ok (.func fn first cap) w:=fun _ _ _ _=>rfl;have bm:=Cn.y9r h.ok (Cn.full l c).1;have a7:=Cn.x3e l c;have aV:Hid ((Cn.full l c).2≠0->Cn.wfull l c=(Cn.full l c).2):=fun q=>if_pos q;have aW:Hid ((Cn.full l c).2=0->Cn.wfull l c=if Cn.x1N l 0 (Cn.full l c).1 then 75 else 0):=fun q=>(by unfold Cn.wfull; rw [if_neg (by omega),bm]);clear bm h hg;generalize Cn.full l c=f at *;generalize Cn.wfull l c=R at *;obtain ⟨xs,er⟩:=f;simp only at aV aW a7;unfold xV at *;have bf:(w.alloc (.cells #[.slice ag cs.length ab,.slice ai os.length ac,.map (some mr)] 118)).heap.size=w.heap.size+1:=(by simp);go_enter func114,ntmps114;go_wp2_with fail;refine (V K).mono ?_;rintro e w1 ⟨v1,rfl,aw,aa⟩;simp only at aw;rw [bf] at aa aw;have aE:Bw w w1:=hb.trans (aa.mono (by omega));clear K;by_cases he:er=0
 ·subst he;have hR:=V aW rfl;clear aV aW;rcases Nat.eq_zero_or_pos xs.length with n0 | n0
  ·obtain rfl:xs=[]:=List.eq_nil_of_length_eq_zero n0
   have HF:IntB w R (.returned (.int .i64 0)) w1:=by
    rw [hR]; exact ⟨rfl,aE⟩
   obtain ⟨ao,cap,rfl,_,_⟩:=aw.sk.shape;clear hR aw KC HX aa aE;go_wp2;refine wp_loop_rounds 1 ?_;rw [rounds_succ];go_wp2;go_ret;exact HF
  ·have ar:=aw.sk;obtain ⟨xb,bj,xcap,rfl,hx1,hx2,bh⟩:=ar.place n0
   have HC:Hid (∀ W,Below (w.heap.size+1) (w.alloc (.cells #[.slice ag cs.length ab,.slice ai os.length ac,.map (some mr)] 118)) W->Bw w1 W->∀ i,i<xs.length->W.cell? ⟨xb,bj+i,none⟩=some (.int .i32 (xs.getD i 0))):=fun W _ hW i hi=>by
    rw [hW.cell (x0a (bh i hi))]; exact bh i hi
   have aH:=O (fun k hk=>x0x ar (i:=k) hk);have ae:=O (fun a k hk=>Cn.x9i (l:=l) (a:=a) (x:=xs) (k:=k) hk);have aD:=O hR;have aA:=O aa;have aC:=O aE;clear hR aw ar bh aa aE hb;go_wp2;go_loopw [7,9,10,23] (fun a _ _ i wr=>∃ (k:Nat) (z:Int),i=.int .i64 k/\a=.int .i64 z/\k<=xs.length/\Hid (Cn.x1N l 0 xs=Cn.x1N l z (xs.drop k))/\Hid (Bw w1 wr)) (fun _ _ _ i _=>xs.length - (intOf i).toNat)
   case atStart=>exact ⟨0,0,rfl,rfl,by omega,by rw [List.drop_zero]; exact rfl,b0r⟩
   case round =>
    obtain ⟨k,z,rfl,rfl,hk,aU,aB⟩:=hrel;have aL:=V aB;have am:Below (w.heap.size+1) (w.alloc (.cells #[.slice ag cs.length ab,.slice ai os.length ac,.map (some mr)] 118)) wr:=(V aA).trans (aL.mono (by have:=(V aA).size; simp at this; omega));have an:Bw w wr:=x0b (V aC) aL;by_cases hlt:k<xs.length
    ·have a0:=V HC wr am aL k hlt;obtain ⟨y0,y1,y2⟩:=V HX wr am;have KK:=O (V KC wr (xs.getD k 0) an (V aH k hlt));have be:=V ae z k hlt;rw [<- V aU] at be;have aI:=O be;clear be aU aL am an;generalize Cn.cls l (xs.getD k 0)=n at *;generalize xs.getD k 0=x at *;go_wp2_with fail;refine (V KK).mono ?_;rintro e w2 ⟨rfl,ah⟩;have aJ:Bw w1 w2:=x0b (V aB) ah;have al:Bw w w2:=x0b (V aC) aJ;clear KK a0 y0 y1 y2 ah;by_cases hcond:n≠0/\n<z
     ·have HF:IntB w R (.returned (.int .i64 75)) w2:=by
       have e1:=V aD;rw [V aI,d0t hcond,Bool.true_or] at e1;rw [e1];exact ⟨rfl,al⟩
      obtain ⟨a9,bq⟩:=hcond;have hq:(n != 0)=true:=(by simp [a9]);clear HC aH ae aD aA aC KC HX aI aB aJ al;go_wp2;go_ret;exact HF
     ·have aG:Hid (Cn.x1N l 0 xs=Cn.x1N l n (xs.drop (k+1))):=by
       show _=_;rw [V aI,d0f hcond,Bool.false_or]
      have bk:=O aJ;by_cases bq:n<z
      ·have a9:n=0:=by
        rcases Int.decEq n 0 with h | h
        ·exact absurd ⟨h,bq⟩ hcond
        ·exact h
       subst a9;clear HC aH ae aD aA aC KC HX aI aB aJ al hcond;go_wp2
       go_roundw
       case rel=>exact ⟨k+1,0,by go_num,rfl,by omega,aG,bk⟩
       case measure=>simp [intOf]; omega
      ·clear HC aH ae aD aA aC KC HX aI aB aJ al hcond;go_wp2
       go_roundw
       case rel=>exact ⟨k+1,n,by go_num,rfl,by omega,aG,bk⟩
       case measure=>simp [intOf]; omega
    ·obtain rfl:k=xs.length:=by omega
     have HF:IntB w R (.returned (.int .i64 0)) wr:=by
      have e1:=V aD;rw [V aU,List.drop_length] at e1;rw [e1];exact ⟨rfl,an⟩
     clear HC aH ae aD aA aC KC HX aU aB aL am an;go_wp2;go_ret;exact HF
 ·obtain rfl:=V aV he;have HF:IntB w R (.returned (.int .i64 R)) w1:=⟨rfl,aE⟩;have hq:(R != 0)=true:=(by simp [he]);obtain ⟨ao,cap,rfl,_,_⟩:=aw.sk.shape;clear aV aW KC HX aw aa aE;go_wp2;go_ret;exact HF
