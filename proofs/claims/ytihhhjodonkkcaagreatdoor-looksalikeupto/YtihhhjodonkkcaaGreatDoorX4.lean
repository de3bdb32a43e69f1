/- CcG7 Cq7 Cr7 Cs7 Cw7 CcH7 CcI7 CcJ7 CcK7 -/
import Derived.Test.YtihhhjodonkkcaaGreatDoorX3
import Derived.Defers
import Derived.Recover
import Derived.Shelf.SlSortCmp.WholeK
namespace Go.Proofs.YtihhhjodonkkcaaGreatDoor
open Go.RowKit
theorem ta_nil w:(Instr.typeAssert .nilIface 20 30 true).run Tryz.prog w=.ok (.tuple #[.int .i64 0,.bool false]) w:=by kernel_rfl
theorem ta_ok n w:(Instr.typeAssert (.iface 30 (.int .i64 n)) 20 30 true).run Tryz.prog w=.ok (.tuple #[.int .i64 n,.bool true]) w:=by kernel_rfl
set_option maxRecDepth 8000 in
theorem catch_idle p q w:CallsD Tryz.prog 177 #[.pointer (some p),.pointer (some q)] .returning w fun e u' w'=>e=.returned (.tuple #[])∧u'=.returning∧w'=w:=by
  refine callsD_of_wpS Tryz.func177 rfl fun c₀ cs hu=>?_
  apply wpS_seq
  apply wpS_region
  simp [wpOpsS,go_sem,recoverD,hu,Tryz.ntmps177,Exit.thenS,ta_nil]
  apply wpS_seq
  apply wpS_region
  simp [wpOpsS,go_sem,Exit.thenS]
  refine wpS_cond (t:=false) (by simp [Act.eval,Array.replicate]) ?_
  simp only [Bool.false_eq_true,if_false]
  refine wpS_of_wp (wp_skip ?_)
  cases c₀
  simp_all [bodyPostS,results,Tryz.results177]
set_option maxRecDepth 8000 in
theorem catch_gave p q n x y (older:List PanicEntry) w (hp:w.cell? p=some x) (hpz:w.frozen? p=false) (hq:(w.setCell p (.slice none 0 0)).cell? q=some y) (hqz:(w.setCell p (.slice none 0 0)).frozen? q=false) :
    CallsD Tryz.prog 177 #[.pointer (some p),.pointer (some q)] (.panicking ({ v:=.iface 30 (.int .i64 n),recovered:=false } :: older)) w fun e u' w' =>
      e=.returned (.tuple #[])∧u'=.panicking ({ v:=.iface 30 (.int .i64 n),recovered:=true } :: older)∧w'=(w.setCell p (.slice none 0 0)).setCell q (.int .i64 n):=by
  refine callsD_of_wpS Tryz.func177 rfl fun c₀ cs hu=>?_
  apply wpS_seq
  apply wpS_region
  simp [wpOpsS,go_sem,recoverD,hu,Tryz.ntmps177,Exit.thenS,ta_ok]
  apply wpS_seq
  apply wpS_region
  simp [wpOpsS,go_sem,Exit.thenS]
  refine wpS_cond (t:=true) (by simp [Act.eval,Array.replicate]) ?_
  simp only [if_true]
  apply wpS_region
  simp [wpOpsS,go_sem,hp,hpz,hq,hqz,bodyPostS,results,Tryz.results177]
def fw (w:World) (fv:Value):World:=((w.alloc (.cells #[.slice none 0 0] 23)).alloc (.cells #[.int .i64 0] 30)).alloc (.cells #[fv,.slice none 0 0,.slice none 0 0] 240)
theorem fw_at w fv:(fw w fv).heap[w.heap.size]?=some (.cells #[.slice none 0 0] 23 (0,0))∧(fw w fv).heap[w.heap.size+1]?=some (.cells #[.int .i64 0] 30 (0,0))∧(fw w fv).heap[w.heap.size+2]?=some (.cells #[fv,.slice none 0 0,.slice none 0 0] 240 (0,0))∧(fw w fv).heap.size=w.heap.size+3:=by
  have e:(fw w fv).heap=((w.heap.push (.cells #[.slice none 0 0] 23 (0,0))).push (.cells #[.int .i64 0] 30 (0,0))).push (.cells #[fv,.slice none 0 0,.slice none 0 0] 240 (0,0)):=rfl
  rw [e]
  refine ⟨?_,?_,?_,by simp⟩
  · grind
  · grind
  · rw [Array.getElem?_push]; simp
theorem fw_wk w fv:Wk w.heap.size (fw w fv) (w.heap.size+2) fv [] [] (.slice none 0 0) (.slice none 0 0) :=
  ⟨(fw_at w fv).2.2.1,by omega,Ok.nil _ _ _ _,Ok.nil _ _ _ _,fun g h=>by simp [Value.ownBlock] at h⟩
theorem fw_below w fv:Below w.heap.size w (fw w fv):=(((Below.refl _ _).alloc (Nat.le_refl _) _).alloc (by simp) _).alloc (by simp; omega) _
theorem full_end {w w1 fv v out n} (hf:Frm (fw w fv) w1 (w.heap.size+2) (.slice none 0 0) (.slice none 0 0)) (hv:Ok .i32 21 w1 w.heap.size v out) :
    w1.heap[w.heap.size]?=some (.cells #[.slice none 0 0] 23 (0,0))∧w1.heap[w.heap.size+1]?=some (.cells #[.int .i64 0] 30 (0,0)) ∧
    (∀ u,((w1.setCell ⟨w.heap.size,0,none⟩ u).setCell ⟨w.heap.size+1,0,none⟩ (.int .i64 n)).heap[w.heap.size]?=some (.cells #[u] 23 (0,0)) ∧
     ((w1.setCell ⟨w.heap.size,0,none⟩ u).setCell ⟨w.heap.size+1,0,none⟩ (.int .i64 n)).heap[w.heap.size+1]?=some (.cells #[.int .i64 n] 30 (0,0)) ∧
     (w1.setCell ⟨w.heap.size,0,none⟩ u).heap[w.heap.size+1]?=some (.cells #[.int .i64 0] 30 (0,0)) ∧
     Below w.heap.size w ((w1.setCell ⟨w.heap.size,0,none⟩ u).setCell ⟨w.heap.size+1,0,none⟩ (.int .i64 n)) ∧
     Ok .i32 21 ((w1.setCell ⟨w.heap.size,0,none⟩ u).setCell ⟨w.heap.size+1,0,none⟩ (.int .i64 n)) w.heap.size v out):=by
  obtain ⟨a0,a1,a2,a3⟩:=fw_at w fv
  have k0:w1.heap[w.heap.size]?=some (.cells #[.slice none 0 0] 23 (0,0)):=by rw [hf.keep _ (by omega) (by omega) (by simp [Value.ownBlock]) (by simp [Value.ownBlock])]; exact a0
  have k1:w1.heap[w.heap.size+1]?=some (.cells #[.int .i64 0] 30 (0,0)):=by rw [hf.keep _ (by omega) (by omega) (by simp [Value.ownBlock]) (by simp [Value.ownBlock])]; exact a1
  refine ⟨k0,k1,fun u=>?_⟩
  have m1:(w1.setCell ⟨w.heap.size,0,none⟩ u).heap[w.heap.size+1]?=some (.cells #[.int .i64 0] 30 (0,0)):=by rw [set_other _ (by omega)]; exact k1
  refine ⟨?_,?_,m1,?_,?_⟩
  · rw [set_other _ (by omega),set_block k0]; rfl
  · rw [set_block m1]; rfl
  · have hb:Below w.heap.size w w1:=(fw_below w fv).trans (hf.below (fw_wk w fv) (by omega))
    exact below_set (below_set hb (Nat.le_refl _) u) (by omega) _
  · refine hv.keep fun g h1=>?_
    obtain ⟨cur,hc⟩:=ok_tag hv h1
    have g0:g≠w.heap.size:=fun e=>by subst e; rw [k0] at hc; simp at hc
    have g1:g≠w.heap.size+1:=fun e=>by subst e; rw [k1] at hc; simp at hc
    rw [set_other _ g1,set_other _ g0]
set_option maxRecDepth 8000 in
set_option maxHeartbeats 4000000 in
theorem fullK g fa cb rs w (hO:Opens g fa cb rs w) (eg:∀ args w,(callFunc g args).run Tryz.prog w=.ok (.enter g args) w) (hlen:∀ c,(Cn.opn rs c).length≤1000000000) c (hc:Rune c) :
    Calls Tryz.prog 148 #[.func (.func g) fa cb,.int .i32 c] w (FullB w (Cn.full rs c)):=by
  have K:=Hd (down_any g fa cb rs w hO eg hlen 16 [] c [] (fw w (.func (.func g) fa cb)) (w.heap.size+2) _ _ (by simp) (by simp) hc (fw_below w _) (fw_wk w _))
  have hmf:∀ (fn:Fn) (first cap:Array Value) (w:World),(Instr.makeFunc fn first cap).run Tryz.prog w=.ok (.func fn first cap) w:=fun _ _ _ _=>rfl
  have hlen32:=Cn.full_len rs c
  have hwe:=Cn.walk_err rs 16 [] c []
  change Hid (Calls _ _ _ _ (DownB _ _ _ _ _ _ _ (Cn.full rs c))) at K
  change (Cn.full rs c).2≠0→(Cn.full rs c).1=[] at hwe
  generalize Cn.full rs c=r at *
  have HE:Hid (r.2≠0→r.1=[]):=hwe
  go_enter_defers Tryz.func148,Tryz.ntmps148
  go_wp2_with fail
  refine (Uh K).mono ?_
  rintro e1 w1 ⟨hf,⟨hne,hgv⟩ | ⟨h0,rfl,wv',ev',hwk,hn1,hn2⟩⟩
  · unfold Gave at hgv
    subst hgv
    obtain ⟨k0,k1,kk⟩:=full_end (n:=r.2) hf (Ok.nil _ _ _ _)
    obtain ⟨m0,m1,m2,m3,m4⟩:=kk (.slice none 0 0)
    have HF:FullB w r (.returned (.tuple #[.slice none 0 0,.int .i64 r.2])) ((w1.setCell ⟨w.heap.size,0,none⟩ (.slice none 0 0)).setCell ⟨w.heap.size+1,0,none⟩ (.int .i64 r.2)):=⟨_,rfl,by rw [(Uh HE) hne]; exact m4,m3⟩
    have z0:=cell_of (j:=0) m0 (by show 0<1; omega)
    have z1:=cell_of (j:=0) m1 (by show 0<1; omega)
    refine leaves_cons (f:=177) (args:=#[.pointer (some ⟨w.heap.size,0,none⟩),.pointer (some ⟨w.heap.size+1,0,none⟩)]) (by simp) (by simp [go_sem]) ?_
    refine (catch_gave ⟨w.heap.size,0,none⟩ ⟨w.heap.size+1,0,none⟩ r.2 _ _ [] w1 (cell_of (j:=0) k0 (by show 0<1; omega)) (frozen_of k0) (cell_of (j:=0) m2 (by show 0<1; omega)) (frozen_of m2)).mono ?_
    rintro e u' w2 ⟨rfl,rfl,rfl⟩
    generalize (w1.setCell ⟨w.heap.size,0,none⟩ (.slice none 0 0)).setCell ⟨w.heap.size+1,0,none⟩ (.int .i64 r.2)=w9 at *
    have z0':w9.cell? ⟨w.heap.size,0,none⟩=some (.slice none 0 0):=z0
    have z1':w9.cell? ⟨w.heap.size+1,0,none⟩=some (.int .i64 r.2):=z1
    simp [Leaves,settle,results,Tryz.results148,go_sem,z0',z1']
    exact HF
  · obtain ⟨ao,cap,rfl,_,_⟩:=hwk.e.sk.shape
    obtain ⟨k0,k1,kk⟩:=full_end (n:=0) hf hwk.e
    obtain ⟨m0,m1,m2,m3,m4⟩:=kk (.slice ao r.1.length cap)
    have HF:FullB w r (.returned (.tuple #[.slice ao r.1.length cap,.int .i64 0])) ((w1.setCell ⟨w.heap.size,0,none⟩ (.slice ao r.1.length cap)).setCell ⟨w.heap.size+1,0,none⟩ (.int .i64 0)):=⟨_,by rw [h0],m4,m3⟩
    have x2:w1.cell? ⟨w.heap.size+1+1,2,none⟩=some (.slice ao r.1.length cap):=cell_of (j:=2) hwk.blk (by show 2<3; omega)
    have y0:w1.cell? ⟨w.heap.size,0,none⟩=some (.slice none 0 0):=cell_of (j:=0) k0 (by show 0<1; omega)
    have y1:w1.cell? ⟨w.heap.size+1,0,none⟩=some (.int .i64 0):=cell_of (j:=0) k1 (by show 0<1; omega)
    have f0:=frozen_of (j:=0) k0
    have f1:=frozen_of (j:=0) k1
    have q1:(w1.setCell ⟨w.heap.size,0,none⟩ (.slice ao r.1.length cap)).cell? ⟨w.heap.size+1,0,none⟩=some (.int .i64 0):=cell_of (j:=0) m2 (by show 0<1; omega)
    have qf:=frozen_of (j:=0) m2
    have z0:((w1.setCell ⟨w.heap.size,0,none⟩ (.slice ao r.1.length cap)).setCell ⟨w.heap.size+1,0,none⟩ (.int .i64 0)).cell? ⟨w.heap.size,0,none⟩=some (.slice ao r.1.length cap):=cell_of (j:=0) m0 (by show 0<1; omega)
    have z1:((w1.setCell ⟨w.heap.size,0,none⟩ (.slice ao r.1.length cap)).setCell ⟨w.heap.size+1,0,none⟩ (.int .i64 0)).cell? ⟨w.heap.size+1,0,none⟩=some (.int .i64 0):=cell_of (j:=0) m1 (by show 0<1; omega)
    have Z0:=Hd z0
    have Z1:=Hd z1
    go_wp2
    refine leaves_cons (f:=177) (args:=#[.pointer (some ⟨w.heap.size,0,none⟩),.pointer (some ⟨w.heap.size+1,0,none⟩)]) (by simp) (by simp [go_sem]) ?_
    refine (catch_idle ⟨w.heap.size,0,none⟩ ⟨w.heap.size+1,0,none⟩ _).mono ?_
    rintro e u' w2 ⟨rfl,rfl,rfl⟩
    have z0:=Uh Z0
    have z1:=Uh Z1
    simp [Leaves,settle,results,Tryz.results148,go_sem,z0,z1]
    exact HF
end Go.Proofs.YtihhhjodonkkcaaGreatDoor
namespace Go.Proofs.YtihhhjodonkkcaaGreatDoor.Cn
def inRun (lo hi s x:Int):Prop:=lo≤x∧x≤hi∧s∣x - lo
theorem run_meet {lo1 hi1 s1 lo2 hi2 s2 c0:Int} {N:Nat} (h1:0<s1) (h2:0<s2) (hN:s2≤N) (ha:lo1≤c0) (hb:lo2≤c0) (hd:s1∣c0 - lo1) (hmin:∀ x,lo1≤x→lo2≤x→s1∣x - lo1→c0≤x) :
  (∃ x,inRun lo1 hi1 s1 x∧inRun lo2 hi2 s2 x)↔∃ k:Nat,k<N∧c0+k * s1≤hi1∧c0+k * s1≤hi2∧s2∣c0+k * s1 - lo2:=by
 constructor
 ·rintro ⟨x,⟨a1,a2,a3⟩,b1,b2,b3⟩
  have hcx:=hmin x a1 b1 a3
  obtain ⟨j,hj⟩:s1∣x - c0:=by
   have:=Int.dvd_sub a3 hd
   rwa [show x - lo1 - (c0 - lo1)=x - c0 by omega] at this
  have hj0:0≤j:=by
   rcases Int.lt_or_le j 0 with h | h
   ·have:=Int.mul_neg_of_pos_of_neg h1 h
    omega
   ·exact h
  have hk0:=Int.emod_nonneg j (show s2≠0 by omega)
  have hk1:=Int.emod_lt_of_pos j h2
  have hkj:j % s2≤j:=by
   have:=Int.emod_add_mul_ediv j s2
   have:=Int.mul_nonneg (show 0≤s2 by omega) (Int.ediv_nonneg hj0 (show 0≤s2 by omega))
   omega
  have hle:j % s2 * s1≤x - c0:=by
   rw [hj,Int.mul_comm s1 j]
   exact Int.mul_le_mul_of_nonneg_right hkj (by omega)
  refine ⟨(j % s2).toNat,by omega,?_,?_,?_⟩
  ·rw [Int.toNat_of_nonneg hk0]; omega
  ·rw [Int.toNat_of_nonneg hk0]; omega
  ·rw [Int.toNat_of_nonneg hk0]
   have e:c0+j % s2 * s1 - lo2=(x - lo2) - (j - j % s2) * s1:=by grind
   rw [e]
   refine Int.dvd_sub b3 (Int.dvd_mul_of_dvd_left ?_)
   exact Int.dvd_self_sub_emod
 ·rintro ⟨k,_,k1,k2,k3⟩
  have hnn:0≤(k:Int) * s1:=Int.mul_nonneg (by omega) (by omega)
  refine ⟨c0+k * s1,⟨by omega,k1,?_⟩,by omega,k2,k3⟩
  rw [show c0+(k:Int) * s1 - lo1=(c0 - lo1)+k * s1 by omega]
  exact Int.dvd_add hd (Int.dvd_mul_left _ _)
theorem speaks_iff {r} (h:right r=0) (hk:r.kind≠15) c:speaks r c=true↔inRun r.lo r.hi (step r) c:=by
 have hs:=right_step h
 have hp:=right_span h hk
 unfold speaks inRun
 rw [decide_eq_true_iff]
 constructor
 ·omega
 ·omega
theorem clashA_iff (b:Rec) {s hi:Int} (hs:0≤s):∀ (n:Nat) (c:Int),clashA b s hi n c=true↔∃ k:Nat,k<n∧c+k * s≤hi∧speaks b (c+k * s)=true
 | 0,c=>by simp [clashA]
 | n+1,c=>by
  rw [clashA]
  split
  ·next hc =>
   rw [Bool.or_eq_true,clashA_iff b hs n]
   constructor
   ·rintro (h | ⟨k,h1,h2,h3⟩)
    ·exact ⟨0,by omega,by simpa using hc,by simpa using h⟩
    ·refine ⟨k+1,by omega,?_,?_⟩
     ·rw [show c+((k+1:Nat):Int) * s=c+s+k * s by push_cast; rw [Int.add_mul]; omega]; exact h2
     ·rw [show c+((k+1:Nat):Int) * s=c+s+k * s by push_cast; rw [Int.add_mul]; omega]; exact h3
   ·rintro ⟨k,h1,h2,h3⟩
    cases k with
    | zero=>left; simpa using h3
    | succ k =>
     right
     rw [show c+((k+1:Nat):Int) * s=c+s+k * s by push_cast; rw [Int.add_mul]; omega] at h2 h3
     exact ⟨k,by omega,h2,h3⟩
  ·next hc =>
   constructor
   ·intro h; cases h
   ·rintro ⟨k,_,h2,_⟩
    have:=Int.mul_nonneg (show (0:Int)≤k by omega) hs
    omega
theorem first_run {lo1 lo2 s} (h:0<s) {c0:Int} (hc:c0=if lo1<lo2 then lo1+(lo2 - lo1+s - 1) / s * s else lo1) :
  lo1≤c0∧lo2≤c0∧s∣c0 - lo1∧∀ x,lo1≤x→lo2≤x→s∣x - lo1→c0≤x:=by
 by_cases hl:lo1<lo2
 ·rw [if_pos hl] at hc
  have e:=Int.emod_add_mul_ediv (lo2 - lo1+s - 1) s
  have e0:=Int.emod_nonneg (lo2 - lo1+s - 1) (show s≠0 by omega)
  have e1:=Int.emod_lt_of_pos (lo2 - lo1+s - 1) h
  rw [Int.mul_comm] at e
  have hq:s∣(lo2 - lo1+s - 1) / s * s:=Int.dvd_mul_left _ _
  generalize (lo2 - lo1+s - 1) / s * s=q at *
  subst hc
  refine ⟨by omega,by omega,by rw [show lo1+q - lo1=q by omega]; exact hq,fun x a b d=>?_⟩
  obtain ⟨j,hj⟩:=Int.dvd_sub hq d
  rcases Int.lt_or_le 0 j with h' | h'
  ·have:s * 1≤s * j:=Int.mul_le_mul_of_nonneg_left (by omega) (by omega)
   omega
  ·have:=Int.mul_nonpos_of_nonneg_of_nonpos (show 0≤s by omega) h'
   omega
 ·simp_all
theorem clash_iff {a b} (ha:right a=0) (hb:right b=0) (hf:fam a.kind=fam b.kind) (hk:a.kind≠15) (hk':b.kind≠15):clash a b=true↔∃ c,speaks a c=true∧speaks b c=true:=by
 have hsa:=right_step ha
 have hsb:=right_step hb
 unfold clash
 rw [if_neg (by simp [hf]),if_neg hk,clashA_iff b (by omega)]
 obtain ⟨f1,f2,f3,f4⟩:=first_run (lo1:=a.lo) (lo2:=max a.lo b.lo) (show 0<step a by omega) rfl
 generalize (if a.lo<max a.lo b.lo then a.lo+(max a.lo b.lo - a.lo+step a - 1) / step a * step a else a.lo)=c0 at *
 have:=run_meet (hi1:=a.hi) (hi2:=b.hi) (N:=64) (lo1:=a.lo) (lo2:=b.lo) (s1:=step a) (s2:=step b) (c0:=c0) (by omega) (by omega) (by omega) f1 (by omega) f3 (fun x p q d=>f4 x p (by omega) d)
 constructor
 ·rintro ⟨k,h1,h2,h3⟩
  rw [speaks_iff hb hk'] at h3
  obtain ⟨x,hx,hy⟩:=this.2 ⟨k,h1,by omega,by omega,h3.2.2⟩
  exact ⟨x,(speaks_iff ha hk x).2 hx,(speaks_iff hb hk' x).2 hy⟩
 ·rintro ⟨x,hx,hy⟩
  obtain ⟨k,h1,h2,h3,h4⟩:=this.1 ⟨x,(speaks_iff ha hk x).1 hx,(speaks_iff hb hk' x).1 hy⟩
  refine ⟨k,h1,by omega,(speaks_iff hb hk' _).2 ⟨?_,h3,h4⟩⟩
  have:=Int.mul_nonneg (show (0:Int)≤k by omega) (show 0≤step a by omega)
  omega
theorem fam_ten {k} (h:fam k=10):k=15:=by
 unfold fam at h
 split at h
 ·omega
 ·omega
theorem clash_symm {a b} (ha:right a=0) (hb:right b=0):clash a b=clash b a:=by
 by_cases hf:fam a.kind=fam b.kind
 ·by_cases hk:a.kind=15
  ·have hk':b.kind=15:=fam_ten (by rw [← hf,hk]; decide)
   unfold clash
   rw [if_neg (by simp [hf]),if_pos hk,if_neg (by simp [hf]),if_pos hk']
   refine decide_eq_decide.2 ⟨?_,?_⟩
   ·grind
   ·rintro (⟨h1,h2⟩ | ⟨h1,h2⟩)
    ·exact .inl ⟨h1.symm,h2.symm⟩
    ·exact .inr ⟨h2.symm,h1.symm⟩
  ·have hk':b.kind≠15:=fun e=>hk (fam_ten (by rw [hf,e]; decide))
   have h1:=clash_iff ha hb hf hk hk'
   have h2:=clash_iff hb ha hf.symm hk' hk
   rw [Bool.eq_iff_iff,h1,h2]
   constructor <;> exact fun ⟨c,p,q⟩=>⟨c,q,p⟩
 ·unfold clash
  rw [if_pos hf,if_pos (fun e=>hf e.symm)]
end Go.Proofs.YtihhhjodonkkcaaGreatDoor.Cn
namespace Go.Proofs.YtihhhjodonkkcaaGreatDoor.Cn
theorem getD_at {l:List Rec} {k} (h:k<l.length):l.getD k none=l[k]:=by simp [List.getD,h]
theorem twiceA_none {l:List Rec}:∀ (n i:Nat),l.length - i=n→i≤l.length→(twiceA l i (l.drop i)=Option.none↔∀ j,i≤j→(hj:j<l.length)→∀ k,(hk:k<j)→clash l[k] l[j]=false)
 | 0,i,hn,hi=>by
  rw [List.drop_eq_nil_of_le (by omega),twiceA]
  exact ⟨fun _ j a b=>by omega,fun _=>rfl⟩
 | n+1,i,hn,hi=>by
  have hl:i<l.length:=by omega
  rw [List.drop_eq_getElem_cons hl,twiceA]
  have ih:=twiceA_none (l:=l) n (i+1) (by omega) hl
  have hany:((l.take i).any fun k=>clash k l[i])=true↔∃ k,∃ hk:k<i,clash l[k] l[i]=true:=by
   rw [List.any_eq_true]
   constructor
   ·rintro ⟨x,hx,hc⟩
    obtain ⟨k,hk,rfl⟩:=List.mem_take_iff_getElem.1 hx
    exact ⟨k,by omega,hc⟩
   ·rintro ⟨k,hk,hc⟩
    exact ⟨l[k],List.mem_take_iff_getElem.2 ⟨k,by omega,rfl⟩,hc⟩
  split
  ·next h =>
   obtain ⟨k,hk,hc⟩:=hany.1 h
   exact ⟨fun h=>(nomatch h),fun h=>by rw [h i (Nat.le_refl _) hl k hk] at hc; cases hc⟩
  ·next h =>
   rw [ih]
   constructor
   ·intro h2 j hij hj k hk
    rcases Nat.eq_or_lt_of_le hij with rfl | hij
    ·exact Bool.eq_false_iff.2 fun hc=>h (hany.2 ⟨k,hk,hc⟩)
    ·exact h2 j hij hj k hk
   ·exact fun h2 j hij hj k hk=>h2 j (by omega) hj k hk
theorem rightA_none:∀ (l:List Rec) (i:Nat),rightA i l=Option.none↔∀ r∈l,right r=0
 | [],_=>⟨fun _ r hr=>absurd hr (by simp),fun _=>rfl⟩
 | x :: l,i=>by
  rw [rightA,List.forall_mem_cons]
  split
  ·next h=>rw [rightA_none l]; exact ⟨fun a=>⟨h,a⟩,fun a=>a.2⟩
  ·next h=>exact ⟨fun a=>(nomatch a),fun a=>absurd a.1 h⟩
theorem check6_iff {l}:(check6 l).2=0↔l.length≤4096∧(∀ r∈l,right r=0)∧l.Pairwise fun a b=>clash a b=false:=by
 have ht:=twiceA_none (l:=l) l.length 0 (by omega) (by omega)
 rw [List.drop_zero] at ht
 have hr:=rightA_none l 0
 rw [List.pairwise_iff_getElem]
 unfold check6
 split
 ·omega
 ·next h =>
  split
  ·next x hx =>
   refine ⟨fun a=>absurd a (rightA_err _ _ _ hx),fun a=>?_⟩
   rw [hr.2 a.2.1] at hx
   cases hx
  ·grind
theorem findA_hit (f c:Int):∀ (l:List Rec) (i:Nat),0≤findA f c i l→∃ k,∃ hk:k<l.length,findA f c i l=(i+k:Nat)∧fam l[k].kind=f∧speaks l[k] c=true
 | [],i,h=>by rw [findA] at h; omega
 | r :: l,i,h=>by
  rw [findA] at h ⊢
  split
  ·next hr=>exact ⟨0,by simp,by simp,hr.1,hr.2⟩
  ·next hr =>
   rw [if_neg hr] at h
   obtain ⟨k,hk,h1,h2,h3⟩:=findA_hit f c l (i+1) h
   exact ⟨k+1,by simp; omega,by rw [h1]; congr 1; omega,h2,h3⟩
theorem findA_some (f c:Int):∀ (l:List Rec) (i:Nat),(∃ r∈l,fam r.kind=f∧speaks r c=true)→0≤findA f c i l
 | [],i,⟨r,hr,_⟩=>by cases hr
 | x :: l,i,⟨r,hr,h1,h2⟩=>by
  rw [findA]
  split
  ·omega
  ·next hx =>
   rcases List.mem_cons.1 hr with rfl | hr
   ·exact absurd ⟨h1,h2⟩ hx
   ·exact findA_some f c l (i+1) ⟨r,hr,h1,h2⟩
theorem hit_some {l f c r} (h:hit l f c=some r):r∈l∧fam r.kind=f∧speaks r c=true:=by
 unfold hit at h
 split at h
 ·cases h
 ·next hf =>
  cases h
  unfold find at hf ⊢
  split at hf
  ·omega
  ·next hg =>
   rw [if_neg hg]
   obtain ⟨k,hk,h1,h2,h3⟩:=findA_hit f c l 0 (by omega)
   rw [h1,show ((0+k:Nat):Int).toNat=k by omega,getD_at hk]
   exact ⟨List.getElem_mem hk,h2,h3⟩
theorem once {l} (h:(check6 l).2=0) {f c a b} (ha:a∈l) (hb:b∈l) (fa:fam a.kind=f) (fb:fam b.kind=f) (sa:speaks a c=true) (sb:speaks b c=true):a=b:=by
 obtain ⟨_,hr,hp⟩:=check6_iff.1 h
 rw [List.pairwise_iff_getElem] at hp
 have hk:∀ {x:Rec},speaks x c=true→x.kind≠15:=fun hx=>by
  unfold speaks at hx
  exact (of_decide_eq_true hx).1
 obtain ⟨i,hi,rfl⟩:=List.getElem_of_mem ha
 obtain ⟨j,hj,rfl⟩:=List.getElem_of_mem hb
 rcases Nat.lt_trichotomy i j with h' | rfl | h'
 ·have:=hp i j hi hj h'
  rw [Bool.eq_false_iff] at this
  exact absurd ((clash_iff (hr _ ha) (hr _ hb) (fa.trans fb.symm) (hk sa) (hk sb)).2 ⟨c,sa,sb⟩) this
 ·rfl
 ·have:=hp j i hj hi h'
  rw [Bool.eq_false_iff] at this
  exact absurd ((clash_iff (hr _ hb) (hr _ ha) (fb.trans fa.symm) (hk sb) (hk sa)).2 ⟨c,sb,sa⟩) this
theorem hit_iff {l} (h:(check6 l).2=0) {f c} (hf:f≠10∧f≠0) r:hit l f c=some r↔r∈l∧fam r.kind=f∧speaks r c=true:=by
 refine ⟨hit_some,fun ⟨h1,h2,h3⟩=>?_⟩
 have hs:=findA_some f c l 0 ⟨r,h1,h2,h3⟩
 have he:hit l f c=some (l.getD (find l f c).toNat none):=by
  unfold hit
  rw [if_neg]
  unfold find
  rw [if_neg (by omega)]
  omega
 obtain ⟨g1,g2,g3⟩:=hit_some he
 rw [he,once h g1 h1 g2 h2 g3 h3]
theorem hit_none {l f c} (hf:f≠10∧f≠0) (h:hit l f c=Option.none):∀ r∈l,fam r.kind=f→speaks r c=false:=by
 intro r hr h2
 refine Bool.eq_false_iff.2 fun h3=>?_
 have hs:=findA_some f c l 0 ⟨r,hr,h2,h3⟩
 unfold hit at h
 rw [if_neg] at h
 ·cases h
 ·unfold find
  rw [if_neg (by omega)]
  omega
end Go.Proofs.YtihhhjodonkkcaaGreatDoor.Cn
namespace Go.Proofs.YtihhhjodonkkcaaGreatDoor.Cn
def sameTo (a b:Rec):Prop:=a.kind=7∧b.kind=7∧a.to.getD 0 0=b.to.getD 0 0∧a.to.getD 1 0=b.to.getD 1 0
theorem pair_iff {l i r} (h7:r.kind=7):pair l i r=true↔pair l 0 r=true∧∀ k∈l.take i,¬ sameTo k r:=by
 unfold pair
 rw [Bool.and_eq_true,Bool.and_eq_true]
 have h0:(!((l.take 0).any fun k=>decide (k.kind=7∧k.to.getD 0 0=r.to.getD 0 0∧k.to.getD 1 0=r.to.getD 1 0)))=true:=by simp
 have hi:(!((l.take i).any fun k=>decide (k.kind=7∧k.to.getD 0 0=r.to.getD 0 0∧k.to.getD 1 0=r.to.getD 1 0)))=true↔∀ k∈l.take i,¬ sameTo k r:=by
  rw [Bool.not_eq_true',Bool.eq_false_iff,Ne,List.any_eq_true]
  constructor
  ·exact fun h k hk ⟨a,_,b,c⟩=>h ⟨k,hk,decide_eq_true ⟨a,b,c⟩⟩
  ·rintro h ⟨k,hk,hd⟩
   obtain ⟨a,b,c⟩:=of_decide_eq_true hd
   exact h k hk ⟨a,h7,b,c⟩
 rw [hi]
 exact ⟨fun ⟨a,b⟩=>⟨⟨a,h0⟩,b⟩,fun ⟨⟨a,_⟩,b⟩=>⟨a,b⟩⟩
def recF (l:List Rec) (r:Rec) (b:Bool):Int :=
 if fam r.kind≠2∧fam r.kind≠3 then 0
 else if covers r 0 127 then 70
 else if covers r 4352 4370 || covers r 4449 4469 || covers r 4520 4546 || covers r 44032 55203 then 71
 else if r.kind=7∧((jl (r.to.getD 0 0) && jv (r.to.getD 1 0)) || (syl (r.to.getD 0 0) && decide ((r.to.getD 0 0 - 44032) % 28=0) && jt (r.to.getD 1 0)))=true then 71
 else if fam r.kind=2 then 0
 else if (full l r.lo).2≠0 then (full l r.lo).2
 else if fallsA l (full l r.lo).1 then 75
 else if b=true then 74
 else 0
theorem record_F l i r:record l i r=recF l r (decide (r.kind=7∧pair l i r=false)):=by
 unfold record recF
 simp only [decide_eq_true_eq]
theorem recF_two {l r} (hf:fam r.kind=3):(recF l r true=recF l r false∧recF l r false≠0)∨(recF l r true=74∧recF l r false=0):=by
 unfold recF
 have h1:¬ (fam r.kind≠2∧fam r.kind≠3):=fun h=>h.2 hf
 have h2:¬ fam r.kind=2:=by omega
 simp only [if_neg h1,if_neg h2,if_true]
 by_cases c1:covers r 0 127=true
 ·simp [c1]
 ·grind
theorem record_iff {l i r}:record l i r=0↔record l 0 r=0∧∀ k∈l.take i,¬ sameTo k r:=by
 rw [record_F,record_F]
 by_cases h7:r.kind=7
 ·have hp:=pair_iff (l:=l) (i:=i) h7
  have hf:fam r.kind=3:=by rw [h7]; decide
  have e:∀ i,decide (r.kind=7∧pair l i r=false)=!(pair l i r):=fun i=>by cases pair l i r <;> simp [h7]
  rw [e,e]
  rcases recF_two (l:=l) hf with ⟨h1,h2⟩ | ⟨h1,h2⟩
  ·grind
  ·grind
 ·have e:∀ i,decide (r.kind=7∧pair l i r=false)=false:=fun i=>by simp [h7]
  rw [e,e]
  exact ⟨fun a=>⟨a,fun k _ s=>h7 s.2.1⟩,fun a=>a.1⟩
theorem recordA_none {l:List Rec}:∀ (m:List Rec) (i:Nat),recordA l i m=Option.none↔∀ j,(hj:j<m.length)→record l (i+j) m[j]=0
 | [],i=>⟨fun _ j hj=>absurd hj (by simp),fun _=>rfl⟩
 | r :: m,i=>by
  rw [recordA]
  split
  ·next h =>
   rw [recordA_none m]
   constructor
   ·intro h2 j hj
    cases j with
    | zero=>exact h
    | succ j =>
     have:=h2 j (by simpa using hj)
     rwa [show i+1+j=i+(j+1) by omega] at this
   ·intro h2 j hj
    have:=h2 (j+1) (by simpa using hj)
    rwa [show i+(j+1)=i+1+j by omega] at this
  ·next h=>exact ⟨fun a=>(nomatch a),fun a=>absurd (a 0 (by simp)) h⟩
theorem recordA_err {l:List Rec}:∀ (m:List Rec) (i:Nat) (x:Nat × Int),recordA l i m=some x→x.2≠0
 | [],_,_,h=>by rw [recordA] at h; cases h
 | y :: m,i,x,h=>by
  rw [recordA] at h
  split at h
  ·exact recordA_err m (i+1) x h
  ·next hx=>cases h; exact hx
theorem check_iff {l}:(check l).2=0↔(check6 l).2=0∧(∀ r∈l,record l 0 r=0)∧(l.Pairwise fun a b=>¬ sameTo a b)∧baseA l 78 45=true:=by
 have hr:=recordA_none (l:=l) l 0
 have hx:(∀ j,(hj:j<l.length)→record l (0+j) l[j]=0)↔(∀ r∈l,record l 0 r=0)∧l.Pairwise fun a b=>¬ sameTo a b:=by
  rw [List.pairwise_iff_getElem]
  constructor
  ·intro h
   refine ⟨fun r hr=>?_,fun i j hi hj hij=>?_⟩
   ·obtain ⟨j,hj,rfl⟩:=List.getElem_of_mem hr
    exact (record_iff.1 (h j hj)).1
   ·exact (record_iff.1 (h j hj)).2 _ (List.mem_take_iff_getElem.2 ⟨i,by omega,rfl⟩)
  ·rintro ⟨h1,h2⟩ j hj
   refine record_iff.2 ⟨h1 _ (List.getElem_mem hj),fun k hk=>?_⟩
   obtain ⟨i,hi,rfl⟩:=List.mem_take_iff_getElem.1 hk
   exact h2 i j (by omega) hj (by omega)
 unfold check
 split
 ·omega
 ·next h =>
  split
  ·next x hx' =>
   refine ⟨fun a=>absurd a (recordA_err _ _ _ hx'),fun a=>?_⟩
   rw [hr.2 (hx.2 ⟨a.2.1,a.2.2.1⟩)] at hx'
   cases hx'
  ·grind
theorem clash_no {a b} (ha:right a=0) (hb:right b=0) (h:clash a b=false):clash b a=false:=by rw [clash_symm hb ha]; exact h
end Go.Proofs.YtihhhjodonkkcaaGreatDoor.Cn
namespace Go.Proofs.YtihhhjodonkkcaaGreatDoor.Cn
def Ordered (f:Int) (s:List Rec):Prop:=(∀ r∈s,right r=0∧fam r.kind=f)∧s.Pairwise fun a b=>a.hi<b.lo
def ahead (s:List Rec) (c:Int):Nat:=s.countP fun r=>decide (r.hi<c)
def near (s:List Rec) (c:Int):List Rec:=(s.drop (ahead s c)).take 1
theorem step_one {r} (h:fam r.kind=2∨fam r.kind=3):step r=1∧r.kind≠15∧r.kind≠4:=by
 have h4:r.kind≠4:=by
  intro e; rw [e] at h; revert h; decide
 have h5:r.kind≠15:=by
  intro e; rw [e] at h; revert h; decide
 exact ⟨by unfold step; rw [if_neg h4],h5,h4⟩
theorem speaks_one {r} (h:right r=0) (hf:fam r.kind=2∨fam r.kind=3) c:speaks r c=true↔r.lo≤c∧c≤r.hi:=by
 obtain ⟨h1,h2,_⟩:=step_one hf
 rw [speaks_iff h h2,inRun,h1]
 constructor
 ·rintro ⟨a,b,_⟩; exact ⟨a,b⟩
 ·omega
theorem ordered_of {f} (hf:f=2∨f=3) {s} (hr:∀ r∈s,right r=0∧fam r.kind=f) (hc:s.Pairwise fun a b=>clash a b=false) (hs:s.Pairwise fun a b=>a.lo≤b.lo):Ordered f s:=by
 refine ⟨hr,?_⟩
 have h:=List.pairwise_and_iff.2 ⟨hc,hs⟩
 refine h.imp_of_mem fun {a b} ha hb ⟨h1,h2⟩=>?_
 obtain ⟨ra,fa⟩:=hr a ha
 obtain ⟨rb,fb⟩:=hr b hb
 have fa':fam a.kind=2∨fam a.kind=3:=by omega
 have fb':fam b.kind=2∨fam b.kind=3:=by omega
 obtain ⟨_,ka,_⟩:=step_one fa'
 obtain ⟨_,kb,_⟩:=step_one fb'
 obtain ⟨_,sb,_⟩:=right_span rb kb
 refine Int.not_le.1 fun hle=>?_
 have:clash a b=true:=(clash_iff ra rb (by omega) ka kb).2 ⟨b.lo,(speaks_one ra fa' _).2 ⟨h2,hle⟩,(speaks_one rb fb' _).2 ⟨Int.le_refl _,sb⟩⟩
 rw [h1] at this
 cases this
theorem near_mem {s c r} (h:r∈near s c):r∈s:=List.mem_of_mem_drop (List.mem_of_mem_take h)
theorem near_in {f:Int} (hf:f=2∨f=3):∀ {s:List Rec} (_:Ordered f s) {c:Int} {r:Rec} (_:r∈s) (_:r.lo≤c) (_:c≤r.hi),r∈near s c
 | [],_,_,_,h,_,_=>by cases h
 | a :: s,ho,c,r,h,h1,h2=>by
  obtain ⟨hr,hp⟩:=ho
  rw [List.pairwise_cons] at hp
  by_cases ha:a.hi<c
  ·have hne:r≠a:=by rintro rfl; omega
   have hm:r∈s:=by
    rcases List.mem_cons.1 h with e | e
    ·exact absurd e hne
    ·exact e
   have ih:=near_in hf (s:=s) ⟨fun x hx=>hr x (List.mem_cons_of_mem _ hx),hp.2⟩ hm h1 h2
   have e:ahead (a :: s) c=ahead s c+1:=by
    unfold ahead
    rw [List.countP_cons_of_pos (by simpa using ha)]
   unfold near
   rw [e,List.drop_succ_cons]
   exact ih
  ·have hz:ahead (a :: s) c=0:=by
    unfold ahead
    rw [List.countP_eq_zero]
    intro x hx
    rcases List.mem_cons.1 hx with rfl | hx'
    ·simpa using ha
    ·have h3:=hp.1 x hx'
     obtain ⟨rx,fx⟩:=hr x hx
     obtain ⟨_,kx,_⟩:=step_one (r:=x) (by omega)
     have:=right_span rx kx
     simp; omega
   have e:r=a:=by
    rcases List.mem_cons.1 h with e | e
    ·exact e
    ·have:=hp.1 r e
     omega
   subst e
   unfold near
   rw [hz]
   simp
theorem near_right {f s} (ho:Ordered f s) c:(check6 (near s c)).2=0:=by
 refine check6_iff.2 ⟨?_,fun r hr=>(ho.1 r (near_mem hr)).1,?_⟩
 ·unfold near
  rw [List.length_take]
  omega
 ·have:(near s c).length≤1:=by unfold near; rw [List.length_take]; omega
  match near s c,this with
  | [],_=>exact .nil
  | [_],_=>simp
  | _ :: _ :: _,h=>simp at h
theorem near_hit {f} (hf:f=2∨f=3) {l s} (hl:(check6 l).2=0) (ho:Ordered f s) (hm:∀ r,r∈s↔r∈l∧fam r.kind=f) c:hit (near s c) f c=hit l f c:=by
 have hf':f≠10∧f≠0:=by omega
 apply Option.ext
 intro r
 rw [hit_iff (near_right ho c) hf',hit_iff hl hf']
 constructor
 ·rintro ⟨h1,h2,h3⟩
  exact ⟨((hm r).1 (near_mem h1)).1,h2,h3⟩
 ·rintro ⟨h1,h2,h3⟩
  have hs:=(hm r).2 ⟨h1,h2⟩
  have hr:=ho.1 r hs
  have:=(speaks_one hr.1 (by omega) c).1 h3
  exact ⟨near_in hf ho hs this.1 this.2,h2,h3⟩
theorem near_cls {l s} (hl:(check6 l).2=0) (ho:Ordered 2 s) (hm:∀ r,r∈s↔r∈l∧fam r.kind=2) c:cls (near s c) c=cls l c:=by
 unfold cls
 rw [near_hit (.inl rfl) hl ho hm]
theorem near_opn {l s} (hl:(check6 l).2=0) (ho:Ordered 3 s) (hm:∀ r,r∈s↔r∈l∧fam r.kind=3) c:opn (near s c) c=opn l c:=by
 unfold opn
 rw [near_hit (.inr rfl) hl ho hm]
theorem near_prim {l s} (hl:(check6 l).2=0) (ho:Ordered 3 s) (hm:∀ r,r∈s↔r∈l∧fam r.kind=3) c:prim (near s c) c=prim l c:=by
 unfold prim
 rw [near_opn hl ho hm,near_hit (.inr rfl) hl ho hm]
end Go.Proofs.YtihhhjodonkkcaaGreatDoor.Cn
namespace Go.Proofs.YtihhhjodonkkcaaGreatDoor
open Go.RowKit
theorem isNaNI_any x w:Calls Tryz.prog 176 #[.int .i64 x] w fun e w'=>e=.returned (.bool false)∧w'=w:=by
 have hx:(x != x)=false:=by simp
 go_enter Tryz.func176,Tryz.ntmps176
 go_wp2
 go_ret
 exact ⟨rfl,rfl⟩
theorem compareI_any x y w:Calls Tryz.prog 143 #[.int .i64 x,.int .i64 y] w fun e w'=>e=.returned (.int .i64 (Lib.compareInt x y))∧w'=w:=by
 have K:=Hd isNaNI_any
 have HF:∀ r,r=Lib.compareInt x y→(Ending.returned (.int .i64 r)=.returned (.int .i64 (Lib.compareInt x y))∧w=w):=fun r h=>by subst h; exact ⟨rfl,rfl⟩
 have HF1:x<y→Lib.compareInt x y=-1:=fun h=>by unfold Lib.compareInt; rw [if_pos h]
 have HF2:y<x→Lib.compareInt x y=1:=fun h=>by unfold Lib.compareInt; rw [if_neg (by omega),if_pos (by omega)]
 have HF3:¬ x<y→¬ y<x→Lib.compareInt x y=0:=fun h1 h2=>by unfold Lib.compareInt; rw [if_neg h1,if_neg (by omega)]
 by_cases h1:x<y
 ·rw [HF1 h1]
  go_enter Tryz.func143,Tryz.ntmps143
  go_wp2_with (go_at_call 176; refine ((Uh K) _ _).mono ?_; rintro e w1 ⟨rfl,rfl⟩)
  go_ret
  exact ⟨rfl,rfl⟩
 ·by_cases h2:y<x
  ·rw [HF2 h2]
   go_enter Tryz.func143,Tryz.ntmps143
   go_wp2_with (go_at_call 176; refine ((Uh K) _ _).mono ?_; rintro e w1 ⟨rfl,rfl⟩)
   go_ret
   exact ⟨rfl,rfl⟩
  ·rw [HF3 h1 h2]
   go_enter Tryz.func143,Tryz.ntmps143
   go_wp2_with (go_at_call 176; refine ((Uh K) _ _).mono ?_; rintro e w1 ⟨rfl,rfl⟩)
   go_ret
   exact ⟨rfl,rfl⟩
theorem nearCmp_any r vt c w:Calls Tryz.prog 196 #[recV r vt,.int .i64 c] w fun e w'=>e=.returned (.int .i64 (Lib.compareInt r.hi c))∧Below w.heap.size w w':=by
 have K:=Hd (fun W=>compareI_any r.hi c W)
 unfold recV
 have HB:∀ o,Below w.heap.size w (w.alloc o):=fun o=>(Below.refl _ _).alloc (Nat.le_refl _) _
 have HBB:=Hd HB
 go_enter Tryz.func196,Tryz.ntmps196
 go_wp2_with fail
 refine ((Uh K) _).mono ?_
 rintro e w1 ⟨rfl,rfl⟩
 go_wp2
 go_ret
 exact ⟨rfl,(Uh HBB) _⟩
def Bdry (s:List Rec) (c:Int) (lo hi:Nat):Prop:=(∀ t,t<lo→(s.getD t Cn.none).hi<c)∧(∀ t,hi≤t→t<s.length→¬ (s.getD t Cn.none).hi<c)
def SearchB (w:World) (s:List Rec) (c:Int) (e:Ending) (w':World):Prop:=∃ (k:Nat) (b:Bool),e=.returned (.tuple #[.int .i64 k,.bool b])∧Below w.heap.size w w'∧k≤s.length∧Bdry s c k k
set_option maxRecDepth 8000 in
set_option maxHeartbeats 4000000 in
theorem search_any v s c w (hv:Rcs w v s) (hmono:∀ a b,a≤b→b<s.length→(s.getD b Cn.none).hi<c→(s.getD a Cn.none).hi<c) :
  Calls Tryz.prog 195 #[v,.int .i64 c,.func (.func 196) #[] #[]] w (SearchB w s c):=by
 have eg:∀ args w,(callFunc 196 args).run Tryz.prog w=.ok (.enter 196 args) w:=enters_of Tryz.func196 (by kernel_rfl) rfl
 have KN:=Hd (fun r vt W=>nearCmp_any r vt c W)
 have HM:=Hd hmono
 have hlen:=hv.1
 rcases Nat.eq_zero_or_pos s.length with n0 | n0
 ·obtain ⟨ao,cap,rfl,_,_⟩:=hv.shape
  have HE0:SearchB w s c (.returned (.tuple #[.int .i64 0,.bool false])) w:=⟨0,false,rfl,Below.refl _ _,by omega,fun t ht=>by omega,fun t _ ht=>by omega⟩
  rw [n0]
  go_enter Tryz.func195,Tryz.ntmps195
  go_wp2
  refine wp_loop_rounds 1 ?_
  rw [rounds_succ]
  go_wp2
  go_ret2
  exact HE0
 ·obtain ⟨b,off,cap,rfl,hl1,hl2,hcells⟩:=hv.place n0
  have HC:Hid (∀ i,i<s.length→∀ W,Below w.heap.size w W→RecAt W b (off+i * 8) (s.getD i Cn.none)):=fun i hi W hb=>(hcells i hi).below hb
  go_enter Tryz.func195,Tryz.ntmps195
  go_wp2
  go_loopw [9,10,11] (fun i j _ wr=>∃ lo hi:Nat,i=.int .i64 lo∧j=.int .i64 hi∧lo≤hi∧hi≤s.length∧Below w.heap.size w wr∧Hid (Bdry s c lo hi)) (fun i j _ _=>(intOf j).toNat - (intOf i).toNat)
  case atStart=>exact ⟨0,s.length,rfl,rfl,by omega,by omega,Below.refl _ _,⟨fun t ht=>by omega,fun t h1 h2=>by omega⟩⟩
  case round =>
   obtain ⟨lo,hi,rfl,rfl,hlh,hin,hbel,I⟩:=hrel
   by_cases hlt:lo<hi
   ·have hmid:(lo+hi) / 2<s.length:=by omega
    have hrec:=(Uh HC) ((lo+hi) / 2) hmid wr hbel
    obtain ⟨x0,x1,x2,x3,⟨vt,x4,hsk⟩,x5,x6,x7⟩:=hrec
    obtain ⟨tao,tcap,rfl,_,_⟩:=hsk.shape
    have KC:=Hd ((Uh KN) (s.getD ((lo+hi) / 2) Cn.none) (.slice tao (s.getD ((lo+hi) / 2) Cn.none).to.length tcap) wr)
    unfold recV at KC
    have HI1:Hid ((s.getD ((lo+hi) / 2) Cn.none).hi<c→Bdry s c ((lo+hi) / 2+1) hi):=fun h =>
     ⟨fun t ht=>(Uh HM) t ((lo+hi) / 2) (by omega) hmid h,(Uh I).2⟩
    have HI2:Hid (¬ (s.getD ((lo+hi) / 2) Cn.none).hi<c→Bdry s c lo ((lo+hi) / 2)):=fun h =>
     ⟨(Uh I).1,fun t ht htn h2=>h ((Uh HM) ((lo+hi) / 2) t ht htn h2)⟩
    have hcm:∀ z,Lib.compareInt z c<0↔z<c:=fun z=>by unfold Lib.compareInt; split <;> (try split) <;> omega
    have hcz:=hcm (s.getD ((lo+hi) / 2) Cn.none).hi
    generalize s.getD ((lo+hi) / 2) Cn.none=r at *
    by_cases hz:r.hi<c
    ·have hneg:=hcz.2 hz
     have HI:=Hd ((Uh HI1) hz)
     generalize Lib.compareInt r.hi c=z at *
     go_wp2_with fail
     refine (Uh KC).mono ?_
     rintro e w1 ⟨rfl,hb1⟩
     have hbel1:=bthen hbel hb1
     go_wp2
     go_roundw
     case rel=>exact ⟨(lo+hi) / 2+1,hi,by go_num,rfl,by omega,by omega,hbel1,HI⟩
     case measure=>simp [intOf]; omega
    ·have hneg:¬ Lib.compareInt r.hi c<0:=fun h=>hz (hcz.1 h)
     have HI:=Hd ((Uh HI2) hz)
     generalize Lib.compareInt r.hi c=z at *
     go_wp2_with fail
     refine (Uh KC).mono ?_
     rintro e w1 ⟨rfl,hb1⟩
     have hbel1:=bthen hbel hb1
     go_wp2
     go_roundw
     case rel=>exact ⟨lo,(lo+hi) / 2,rfl,by go_num,by omega,by omega,hbel1,HI⟩
     case measure=>simp [intOf]; omega
   ·obtain rfl:hi=lo:=by omega
    have HEND:Hid (∀ (b:Bool) W,Below w.heap.size w W→SearchB w s c (.returned (.tuple #[.int .i64 (hi:Int),.bool b])) W):=fun b W h=>⟨hi,b,rfl,h,hin,Uh I⟩
    by_cases hn:hi<s.length
    ·have hrec:=(Uh HC) hi hn wr hbel
     obtain ⟨x0,x1,x2,x3,⟨vt,x4,hsk⟩,x5,x6,x7⟩:=hrec
     obtain ⟨tao,tcap,rfl,_,_⟩:=hsk.shape
     have KC:=Hd ((Uh KN) (s.getD hi Cn.none) (.slice tao (s.getD hi Cn.none).to.length tcap) wr)
     unfold recV at KC
     generalize s.getD hi Cn.none=r at x0 x1 x2 x3 x4 x5 x6 x7 KC
     generalize Lib.compareInt r.hi c=z at *
     go_wp2_with fail
     refine (Uh KC).mono ?_
     rintro e w1 ⟨rfl,hb1⟩
     have hbel1:=bthen hbel hb1
     go_wp2
     go_ret2
     exact (Uh HEND) _ _ hbel1
    ·clear HC KN HM I
     go_wp2
     go_ret2
     exact (Uh HEND) _ _ hbel
theorem Rcs.sub {w ao len cap k s} (h:Rcs w (.slice ao len cap) s) (hl:s.length=len) (hk:k<len):∃ b off,ao=some ⟨b,off,none⟩∧Rcs w (.slice (some ⟨b,off+k * 8,none⟩) 1 (cap - k)) ((s.drop k).take 1):=by
 obtain ⟨h1,h2,h3⟩:=h
 rcases h3 with ⟨rfl,ao',cap',hv,hm⟩ | ⟨b,off,cap',hv,hl',hm,hc⟩
 ·simp at hl; omega
 ·simp only [Value.slice.injEq] at hv
  obtain ⟨rfl,e,rfl⟩:=hv
  have hone:((s.drop k).take 1).length=1:=by simp; omega
  refine ⟨b,off,rfl,by omega,fun r hr=>h2 r (List.mem_of_mem_drop (List.mem_of_mem_take hr)),.inr ⟨b,off+k * 8,cap - k,by rw [hone],by omega,by omega,fun i hi=>?_⟩⟩
  obtain rfl:i=0:=by omega
  have:=hc k (by omega)
  rw [show ((s.drop k).take 1).getD 0 Cn.none=s.getD k Cn.none by simp [List.getD],Nat.zero_mul,Nat.add_zero]
  exact this
theorem bdry_ahead {s c}:∀ {k:Nat},k≤s.length→Bdry s c k k→Cn.ahead s c=k:=by
 induction s with
 | nil=>intro k hk _; simp at hk; subst hk; rfl
 | cons a s ih =>
  intro k hk ⟨h1,h2⟩
  cases k with
  | zero =>
   unfold Cn.ahead
   rw [List.countP_eq_zero]
   intro x hx
   obtain ⟨t,ht,rfl⟩:=List.getElem_of_mem hx
   have:=h2 t (Nat.zero_le _) ht
   rw [show (a :: s).getD t Cn.none=(a :: s)[t] from by rw [List.getD_eq_getElem?_getD,List.getElem?_eq_getElem ht]; rfl] at this
   simpa using this
  | succ k =>
   have h0:a.hi<c:=by simpa using h1 0 (by omega)
   have:Cn.ahead s c=k:=ih (by simpa using hk) ⟨fun t ht=>by simpa using h1 (t+1) (by omega),fun t ht htl=>by simpa using h2 (t+1) (by omega) (by simp; omega)⟩
   unfold Cn.ahead at this ⊢
   rw [List.countP_cons_of_pos (by simpa using h0),this]
theorem ordered_mono {f} (hf:f=2∨f=3) {s} (ho:Cn.Ordered f s) c:∀ a b,a≤b→b<s.length→(s.getD b Cn.none).hi<c→(s.getD a Cn.none).hi<c:=by
 intro a b hab hb h
 rcases Nat.lt_or_eq_of_le hab with hlt | rfl
 ·have hp:=List.pairwise_iff_getElem.1 ho.2 a b (by omega) hb hlt
  have eb:s.getD b Cn.none=s[b]:=by grind
  have ea:s.getD a Cn.none=s[a]:=by grind
  rw [eb] at h
  rw [ea]
  obtain ⟨rb,fb⟩:=ho.1 s[b] (List.getElem_mem hb)
  obtain ⟨_,kb,_⟩:=Cn.step_one (r:=s[b]) (by omega)
  have:=Cn.right_span rb kb
  omega
 ·exact h
def NearB (w0 w:World) (s:List Rec) (e:Ending) (w':World):Prop:=∃ v,e=.returned v∧Rcs w0 v s∧Below w.heap.size w w'
set_option maxRecDepth 8000 in
set_option maxHeartbeats 2000000 in
theorem near_any v s c f (hf:f=2∨f=3) w0 w (hv:Rcs w0 v s) (hw:Below w0.heap.size w0 w) (ho:Cn.Ordered f s) (hc:Rune c):Calls Tryz.prog 179 #[v,.int .i32 c] w (NearB w0 w (Cn.near s c)):=by
 have K:=Hd (search_any v s c w (hv.below hw) (ordered_mono hf ho c))
 have hlen:=hv.1
 obtain ⟨ao,cap,rfl,hl1,hl2⟩:=hv.shape
 obtain ⟨c0,c1⟩:=hc
 have HV:=Hd hv
 go_enter Tryz.func179,Tryz.ntmps179
 go_wp2_with fail
 refine (Uh K).mono ?_
 rintro e w1 ⟨k,b,rfl,hb1,hk,hbd⟩
 have ha:=bdry_ahead hk hbd
 by_cases hlt:k<s.length
 ·obtain ⟨bb,off,rfl,hsub⟩:=(Uh HV).sub rfl hlt
  have HF:NearB w0 w (Cn.near s c) (.returned (.slice (some ⟨bb,off+k * 8,none⟩) 1 (cap - k))) w1:=⟨_,rfl,by unfold Cn.near; rw [ha]; exact hsub,hb1⟩
  have hmn:min ((k:Int)+1) (s.length:Int)=(k:Int)+1:=by omega
  have hck:¬ cap - k=0:=by omega
  go_wp2
  go_ret
  exact HF
 ·obtain rfl:k=s.length:=by omega
  have HF:∀ ao' m,m≤9223372036854775807→NearB w0 w (Cn.near s c) (.returned (.slice ao' 0 m)) w1:=fun ao' m hm=>⟨_,rfl,by unfold Cn.near; rw [ha,List.drop_length]; exact ⟨by simp,fun _ h=>(by cases h),.inl ⟨rfl,ao',_,rfl,hm⟩⟩,hb1⟩
  have hmn:min ((s.length:Int)+1) (s.length:Int)=(s.length:Int):=by omega
  go_wp2
  all_goals
   go_ret
   exact HF _ _ (by omega)
structure Idx (l:List Rec) (w0:World) (cv ov:Value) (cs os:List Rec):Prop where
 rc:Rcs w0 cv cs
 ro:Rcs w0 ov os
 oc:Cn.Ordered 2 cs
 oo:Cn.Ordered 3 os
 mc:∀ r,r∈cs↔r∈l∧Cn.fam r.kind=2
 mo:∀ r,r∈os↔r∈l∧Cn.fam r.kind=3
 ok:(Cn.check6 l).2=0
theorem Idx.below {l w0 w1 cv ov cs os} (h:Idx l w0 cv ov cs os) (hb:Below w0.heap.size w0 w1):Idx l w1 cv ov cs os:={ h with rc:=h.rc.below hb,ro:=h.ro.below hb }
def xV (cv ov mv:Value):Value:=.agg #[cv,ov,mv]
set_option maxHeartbeats 1000000 in
theorem xclass_any l cs os cv ov mr c w (hg:Glob w) (h:Idx l w cv ov cs os) (hc:Rune c):Calls Tryz.prog 150 #[xV cv ov (.map (some mr)),.int .i32 c] w (IntB w (Cn.cls l c)):=by
 obtain ⟨cao,ccap,rfl,_,_⟩:=h.rc.shape
 obtain ⟨oao,ocap,rfl,_,_⟩:=h.ro.shape
 have hb:Below w.heap.size w (w.alloc (.cells #[.slice cao cs.length ccap,.slice oao os.length ocap,.map (some mr)] 125)):=(Below.refl _ _).alloc (Nat.le_refl _) _
 have K:=Hd (near_any _ cs c 2 (.inl rfl) w _ h.rc hb h.oc hc)
 have K2:=Hd (fun W v' (hb:Below w.heap.size w W) (hv:Rcs w v' (Cn.near cs c))=>classC v' (Cn.near cs c) c W (hg.on hb) (hv.below hb) hc)
 rw [Cn.near_cls h.ok h.oc h.mc] at K2
 generalize Cn.cls l c=z at *
 unfold xV
 go_enter Tryz.func150,Tryz.ntmps150
 go_wp2_with fail
 refine (Uh K).mono ?_
 rintro e w1 ⟨v1,rfl,hv1,hb1⟩
 have KK:=Hd ((Uh K2) w1 v1 (bthen hb hb1) hv1)
 have hb2:=bthen hb hb1
 obtain ⟨nao,ncap,rfl,_,_⟩:=hv1.shape
 go_wp2_with fail
 refine (Uh KK).mono ?_
 rintro e w2 ⟨rfl,hb3⟩
 have HF:IntB w z (.returned (.int .i64 z)) w2:=⟨rfl,bthen hb2 hb3⟩
 go_wp2
 go_ret
 exact HF
set_option maxHeartbeats 1000000 in
theorem xopen_any l cs os cv ov mr c w0 w (hg:Glob w0) (h:Idx l w0 cv ov cs os) (hw:Below w0.heap.size w0 w) (hc:Rune c):Calls Tryz.prog 149 #[xV cv ov (.map (some mr)),.int .i32 c] w (OpB w0 w (Cn.opn l c)):=by
 obtain ⟨cao,ccap,rfl,_,_⟩:=h.rc.shape
 obtain ⟨oao,ocap,rfl,_,_⟩:=h.ro.shape
 have hb:Below w.heap.size w (w.alloc (.cells #[.slice cao cs.length ccap,.slice oao os.length ocap,.map (some mr)] 125)):=(Below.refl _ _).alloc (Nat.le_refl _) _
 have K:=Hd (near_any _ os c 3 (.inr rfl) w0 _ h.ro (hw.trans (hb.mono hw.size)) h.oo hc)
 have K2:=Hd (fun W v' (hb:Below w.heap.size w W) (hv:Rcs w0 v' (Cn.near os c))=>opened_any v' (Cn.near os c) c w0 W ((hg.on hw).on hb) hv (hw.trans (hb.mono hw.size)) hc)
 rw [Cn.near_opn h.ok h.oo h.mo] at K2
 generalize Cn.opn l c=z at *
 unfold xV
 go_enter Tryz.func149,Tryz.ntmps149
 go_wp2_with fail
 refine (Uh K).mono ?_
 rintro e w1 ⟨v1,rfl,hv1,hb1⟩
 have KK:=Hd ((Uh K2) w1 v1 (bthen hb hb1) hv1)
 have hb2:=bthen hb hb1
 obtain ⟨nao,ncap,rfl,_,_⟩:=hv1.shape
 go_wp2_with fail
 refine (Uh KK).mono ?_
 rintro e w2 ⟨v2,rfl,hk,hb3⟩
 have HF:OpB w0 w z (.returned v2) w2:=⟨v2,rfl,hk.imp id (fun h=>h.lower hb2.size),bthen hb2 hb3⟩
 go_wp2
 go_ret
 exact HF
set_option maxHeartbeats 1000000 in
theorem xprim_any l cs os cv ov mr c w (hg:Glob w) (h:Idx l w cv ov cs os) (hc:Rune c):Calls Tryz.prog 151 #[xV cv ov (.map (some mr)),.int .i32 c] w (BoolB w (Cn.prim l c).isSome):=by
 obtain ⟨cao,ccap,rfl,_,_⟩:=h.rc.shape
 obtain ⟨oao,ocap,rfl,_,_⟩:=h.ro.shape
 have hb:Below w.heap.size w (w.alloc (.cells #[.slice cao cs.length ccap,.slice oao os.length ocap,.map (some mr)] 125)):=(Below.refl _ _).alloc (Nat.le_refl _) _
 have K:=Hd (near_any _ os c 3 (.inr rfl) w _ h.ro hb h.oo hc)
 have K2:=Hd (fun W v' (hb:Below w.heap.size w W) (hv:Rcs w v' (Cn.near os c))=>primC v' (Cn.near os c) c W (hg.on hb) (hv.below hb) hc)
 rw [Cn.near_prim h.ok h.oo h.mo] at K2
 generalize Cn.prim l c=z at *
 unfold xV
 go_enter Tryz.func151,Tryz.ntmps151
 go_wp2_with fail
 refine (Uh K).mono ?_
 rintro e w1 ⟨v1,rfl,hv1,hb1⟩
 have KK:=Hd ((Uh K2) w1 v1 (bthen hb hb1) hv1)
 have hb2:=bthen hb hb1
 obtain ⟨nao,ncap,rfl,_,_⟩:=hv1.shape
 go_wp2_with fail
 refine (Uh KK).mono ?_
 rintro e w2 ⟨rfl,hb3⟩
 have HF:BoolB w z.isSome (.returned (.bool z.isSome)) w2:=⟨rfl,bthen hb2 hb3⟩
 go_wp2
 go_ret
 exact HF
theorem xOpens l cs os cv ov mr w (hg:Glob w) (h:Idx l w cv ov cs os):Opens 149 #[xV cv ov (.map (some mr))] #[] l w :=
 fun c W hW hc=>xopen_any l cs os cv ov mr c w W hg h hW hc
theorem idx_len {l cs os cv ov w} (h:Idx l w cv ov cs os) c:(Cn.opn l c).length≤1000000000:=by
 rw [← Cn.near_opn h.ok h.oo h.mo]
 unfold Cn.opn
 split
 ·split <;> simp
 ·cases hh:Cn.hit (Cn.near os c) 3 c with
  | none=>simp
  | some r =>
   obtain ⟨h1,_,_⟩:=Cn.hit_some hh
   exact (h.ro.2.1 r (Cn.near_mem h1)).len
theorem xfull_any l cs os cv ov mr c w (hg:Glob w) (h:Idx l w cv ov cs os) (hc:Rune c):Calls Tryz.prog 148 #[.func (.func 149) #[xV cv ov (.map (some mr))] #[],.int .i32 c] w (FullB w (Cn.full l c)) :=
 fullK 149 _ _ l w (xOpens l cs os cv ov mr w hg h) (enters_of Tryz.func149 (by kernel_rfl) rfl) (idx_len h) c hc
theorem hmeets_any b r x y w (h1:w.cell? ⟨b,1,none⟩=some (.int .i64 r.lo)) (h2:w.cell? ⟨b,2,none⟩=some (.int .i64 r.hi)):Calls Tryz.prog 144 #[.int .i64 x,.int .i64 y,.pointer (some ⟨b,0,none⟩)] w fun e w'=>e=.returned (.bool (Cn.covers r x y))∧w'=w:=by
 unfold Cn.covers
 by_cases q1:r.lo≤y
 ·by_cases q2:x≤r.hi
  ·rw [decide_eq_true ⟨q1,q2⟩]
   go_enter Tryz.func144,Tryz.ntmps144
   go_wp2
   go_ret
   exact ⟨rfl,rfl⟩
  ·rw [decide_eq_false (fun h=>q2 h.2)]
   have d2:decide (x≤r.hi)=false:=decide_eq_false q2
   go_enter Tryz.func144,Tryz.ntmps144
   go_wp2
   go_ret
   exact ⟨rfl,rfl⟩
 ·rw [decide_eq_false (fun h=>q1 h.1)]
  go_enter Tryz.func144,Tryz.ntmps144
  go_wp2
  go_ret
  exact ⟨rfl,rfl⟩
def touches (r:Rec):Bool:=Cn.covers r 4352 4370 || Cn.covers r 4449 4469 || Cn.covers r 4520 4546 || Cn.covers r 44032 55203
set_option maxRecDepth 8000 in
set_option maxHeartbeats 2000000 in
theorem touches_any r ao len cap w:Calls Tryz.prog 117 #[recV r (.slice ao len cap)] w (BoolB w (touches r)):=by
 have hb:Below w.heap.size w (w.alloc (.cells #[.int .i64 r.kind,.int .i64 r.lo,.int .i64 r.hi,.int .i64 r.n,.slice ao len cap,.string r.name,.string r.other,.float .f64 r.wt] 59)):=(Below.refl _ _).alloc (Nat.le_refl _) _
 have K:=Hd (fun x y=>hmeets_any w.heap.size r x y (w.alloc (.cells #[.int .i64 r.kind,.int .i64 r.lo,.int .i64 r.hi,.int .i64 r.n,.slice ao len cap,.string r.name,.string r.other,.float .f64 r.wt] 59)) (by simp) (by simp))
 have eg:∀ args w,(callFunc 144 args).run Tryz.prog w=.ok (.enter 144 args) w:=enters_of Tryz.func144 (by kernel_rfl) rfl
 have hmf:∀ (fn:Fn) (first cap:Array Value) (w:World),(Instr.makeFunc fn first cap).run Tryz.prog w=.ok (.func fn first cap) w:=fun _ _ _ _=>rfl
 have HB:=Hd hb
 have K1:=Hd ((Uh K) 4352 4370)
 have K2:=Hd ((Uh K) 4449 4469)
 have K3:=Hd ((Uh K) 4520 4546)
 have K4:=Hd ((Uh K) 44032 55203)
 have e0:touches r=(Cn.covers r 4352 4370 || Cn.covers r 4449 4469 || Cn.covers r 4520 4546 || Cn.covers r 44032 55203):=rfl
 rw [e0]
 generalize Cn.covers r 4352 4370=c1 at *
 generalize Cn.covers r 4449 4469=c2 at *
 generalize Cn.covers r 4520 4546=c3 at *
 generalize Cn.covers r 44032 55203=c4 at *
 unfold recV
 cases c1
 ·cases c2
  ·cases c3
   ·rw [show (false || false || false || c4)=c4 by simp]
    go_enter Tryz.func117,Tryz.ntmps117
    go_wp2_with fail
    refine (Uh K1).mono ?_
    rintro e w1 ⟨rfl,rfl⟩
    go_wp2_with fail
    refine (Uh K2).mono ?_
    rintro e w1 ⟨rfl,rfl⟩
    go_wp2_with fail
    refine (Uh K3).mono ?_
    rintro e w1 ⟨rfl,rfl⟩
    go_wp2_with fail
    refine (Uh K4).mono ?_
    rintro e w1 ⟨rfl,rfl⟩
    go_wp2
    go_ret
    exact ⟨rfl,Uh HB⟩
   ·rw [show (false || false || true || c4)=true by simp]
    go_enter Tryz.func117,Tryz.ntmps117
    go_wp2_with fail
    refine (Uh K1).mono ?_
    rintro e w1 ⟨rfl,rfl⟩
    go_wp2_with fail
    refine (Uh K2).mono ?_
    rintro e w1 ⟨rfl,rfl⟩
    go_wp2_with fail
    refine (Uh K3).mono ?_
    rintro e w1 ⟨rfl,rfl⟩
    go_wp2
    go_ret
    exact ⟨rfl,Uh HB⟩
  ·rw [show (false || true || c3 || c4)=true by simp]
   go_enter Tryz.func117,Tryz.ntmps117
   go_wp2_with fail
   refine (Uh K1).mono ?_
   rintro e w1 ⟨rfl,rfl⟩
   go_wp2_with fail
   refine (Uh K2).mono ?_
   rintro e w1 ⟨rfl,rfl⟩
   go_wp2
   go_ret
   exact ⟨rfl,Uh HB⟩
 ·rw [show (true || c2 || c3 || c4)=true by simp]
  go_enter Tryz.func117,Tryz.ntmps117
  go_wp2_with fail
  refine (Uh K1).mono ?_
  rintro e w1 ⟨rfl,rfl⟩
  go_wp2
  go_ret
  exact ⟨rfl,Uh HB⟩
def makes (a b:Int):Bool:=(Cn.jl a && Cn.jv b) || (Cn.syl a && decide ((a - 44032) % 28=0) && Cn.jt b)
set_option maxHeartbeats 1000000 in
theorem makes_any a b w:Calls Tryz.prog 118 #[.int .i32 a,.int .i32 b] w fun e w'=>e=.returned (.bool (makes a b))∧w'=w:=by
 have K0:=Hd (isSyl_any a w)
 by_cases hs:Cn.syl a=true
 ·have hs2:44032≤a∧a≤55203:=by unfold Cn.syl at hs; simpa using hs
  rw [hs] at K0
  have K1:=Hd (tail_any a w hs2)
  have K2:=Hd (within_any b 4520 4546 w)
  have e:makes a b=(decide ((a - 44032) % 28=0) && decide (4520≤b∧b≤4546)):=by
   unfold makes
   rw [hs,show Cn.jl a=false by unfold Cn.jl; exact decide_eq_false (by omega)]
   simp [Cn.jt]
  rw [e]
  generalize decide (4520≤b∧b≤4546)=z at *
  by_cases h0:(a - 44032) % 28=0
  ·rw [decide_eq_true h0,Bool.true_and]
   rw [h0] at K1
   go_enter Tryz.func118,Tryz.ntmps118
   go_wp2_with fail
   refine (Uh K0).mono ?_
   rintro e w1 ⟨rfl,hw1⟩
   subst w1
   go_wp2_with fail
   refine (Uh K1).mono ?_
   rintro e w1 ⟨rfl,hw1⟩
   subst w1
   go_wp2_with fail
   refine (Uh K2).mono ?_
   rintro e w1 ⟨rfl,hw1⟩
   subst w1
   go_wp2
   go_ret
   exact ⟨rfl,rfl⟩
  ·rw [decide_eq_false h0,Bool.false_and]
   generalize (a - 44032) % 28=t at *
   have ht:(t==0)=false:=beq_eq_false_iff_ne.2 h0
   go_enter Tryz.func118,Tryz.ntmps118
   go_wp2_with fail
   refine (Uh K0).mono ?_
   rintro e w1 ⟨rfl,hw1⟩
   subst w1
   go_wp2_with fail
   refine (Uh K1).mono ?_
   rintro e w1 ⟨rfl,hw1⟩
   subst w1
   go_wp2
   go_ret
   exact ⟨rfl,rfl⟩
 ·have hs2:Cn.syl a=false:=by simpa using hs
  rw [hs2] at K0
  have K1:=Hd (within_any a 4352 4370 w)
  have K2:=Hd (within_any b 4449 4469 w)
  have e:makes a b=(decide (4352≤a∧a≤4370) && decide (4449≤b∧b≤4469)):=by
   unfold makes
   rw [hs2]
   simp [Cn.jl,Cn.jv]
  rw [e]
  generalize decide (4352≤a∧a≤4370)=y at *
  generalize decide (4449≤b∧b≤4469)=z at *
  cases y
  ·rw [Bool.false_and]
   go_enter Tryz.func118,Tryz.ntmps118
   go_wp2_with fail
   refine (Uh K0).mono ?_
   rintro e w1 ⟨rfl,hw1⟩
   subst w1
   go_wp2_with fail
   refine (Uh K1).mono ?_
   rintro e w1 ⟨rfl,hw1⟩
   subst w1
   go_wp2
   go_ret
   exact ⟨rfl,rfl⟩
  ·rw [Bool.true_and]
   go_enter Tryz.func118,Tryz.ntmps118
   go_wp2_with fail
   refine (Uh K0).mono ?_
   rintro e w1 ⟨rfl,hw1⟩
   subst w1
   go_wp2_with fail
   refine (Uh K1).mono ?_
   rintro e w1 ⟨rfl,hw1⟩
   subst w1
   go_wp2_with fail
   refine (Uh K2).mono ?_
   rintro e w1 ⟨rfl,hw1⟩
   subst w1
   go_wp2
   go_ret
   exact ⟨rfl,rfl⟩
namespace Cn
theorem right_class {r} (h:right r=0) (h6:r.kind=6):1≤r.n∧r.n≤254:=by
 have hf:=right_kind h
 unfold right at h
 rw [if_neg hf,if_neg (by omega)] at h
 have hc:=if_zero h
 rw [Bool.and_eq_true,if_neg (by omega),if_neg (by omega),if_neg (by omega),if_neg (by omega),if_neg (by omega),if_pos h6] at hc
 have h2:=hc.2
 simp only [Bool.and_eq_true] at h2
 exact of_decide_eq_true h2.2
theorem cls_pos {l} (h:(check6 l).2=0) c:0≤cls l c:=by
 unfold cls
 cases hh:hit l 2 c with
 | none=>simp
 | some r =>
  obtain ⟨h1,h2,_⟩:=hit_some hh
  have hr:=(check6_all h).2 r h1
  have hk:r.kind=6:=by
   revert h2
   unfold fam
   split
   ·intro e; omega
   ·omega
  have:=right_class hr hk
  simp only
  omega
def fallsB (l:List Rec):Int→List Int→Bool
 | _,[]=>false
 | a,b :: r=>decide (cls l b≠0∧cls l b<a) || fallsB l (cls l b) r
theorem falls_B (l:List Rec):∀ (a:Int) (r:List Int),fallsA l (a :: r)=fallsB l (cls l a) r
 | _,[]=>rfl
 | a,b :: r=>by rw [fallsA,fallsB,falls_B l b r]
theorem falls_0 {l:List Rec} (h:(check6 l).2=0):∀ x:List Int,fallsA l x=fallsB l 0 x
 | []=>rfl
 | a :: r=>by
  rw [falls_B,fallsB,decide_eq_false (fun q=>by have:=cls_pos h a; omega),Bool.false_or]
theorem fallsB_step {l a} {x:List Int} {k} (hk:k<x.length):fallsB l a (x.drop k)=(decide (cls l (x.getD k 0)≠0∧cls l (x.getD k 0)<a) || fallsB l (cls l (x.getD k 0)) (x.drop (k+1))):=by
 rw [List.drop_eq_getElem_cons hk,fallsB]
 simp [List.getD,hk]
def wfull (l:List Rec) (c:Int):Int:=if (full l c).2≠0 then (full l c).2 else if fallsA l (full l c).1 then 75 else 0
end Cn
set_option maxRecDepth 8000 in
set_option maxHeartbeats 4000000 in
theorem wfull_any l cs os cv ov mr c w (hg:Glob w) (h:Idx l w cv ov cs os) (hc:Rune c):Calls Tryz.prog 119 #[xV cv ov (.map (some mr)),.int .i32 c] w (IntB w (Cn.wfull l c)):=by
 obtain ⟨cao,ccap,rfl,_,_⟩:=h.rc.shape
 obtain ⟨oao,ocap,rfl,_,_⟩:=h.ro.shape
 have hb:Below w.heap.size w (w.alloc (.cells #[.slice cao cs.length ccap,.slice oao os.length ocap,.map (some mr)] 125)):=(Below.refl _ _).alloc (Nat.le_refl _) _
 have K:=Hd (xfull_any l cs os _ _ mr c _ (hg.on hb) (h.below hb) hc)
 have KC:=Hd (fun W x (hW:Below w.heap.size w W) (hx:Rune x)=>xclass_any l cs os _ _ mr x W (hg.on hW) (h.below hW) hx)
 have HX:Hid (∀ W,Below (w.heap.size+1) (w.alloc (.cells #[.slice cao cs.length ccap,.slice oao os.length ocap,.map (some mr)] 125)) W→W.cell? ⟨w.heap.size,0,none⟩=some (.slice cao cs.length ccap)∧W.cell? ⟨w.heap.size,1,none⟩=some (.slice oao os.length ocap)∧W.cell? ⟨w.heap.size,2,none⟩=some (.map (some mr))):=fun W hW=>by
  refine ⟨?_,?_,?_⟩
  all_goals
   rw [hW.cell (by show w.heap.size<_; omega)]
   simp
 have hmf:∀ (fn:Fn) (first cap:Array Value) (w:World),(Instr.makeFunc fn first cap).run Tryz.prog w=.ok (.func fn first cap) w:=fun _ _ _ _=>rfl
 have hf0:=Cn.falls_0 h.ok (Cn.full l c).1
 have hl32:=Cn.full_len l c
 have HR1:Hid ((Cn.full l c).2≠0→Cn.wfull l c=(Cn.full l c).2):=fun q=>if_pos q
 have HR2:Hid ((Cn.full l c).2=0→Cn.wfull l c=if Cn.fallsB l 0 (Cn.full l c).1 then 75 else 0):=fun q=>by unfold Cn.wfull; rw [if_neg (by omega),hf0]
 generalize Cn.full l c=f at *
 generalize Cn.wfull l c=R at *
 obtain ⟨xs,er⟩:=f
 simp only at HR1 HR2 hl32
 unfold xV at *
 have hszb:(w.alloc (.cells #[.slice cao cs.length ccap,.slice oao os.length ocap,.map (some mr)] 125)).heap.size=w.heap.size+1:=by simp
 go_enter Tryz.func119,Tryz.ntmps119
 go_wp2_with fail
 refine (Uh K).mono ?_
 rintro e w1 ⟨v1,rfl,hok,hb1⟩
 simp only at hok
 rw [hszb] at hb1 hok
 have hB1:Below w.heap.size w w1:=hb.trans (hb1.mono (by omega))
 by_cases he:er=0
 ·subst he
  have hR:=(Uh HR2) rfl
  rcases Nat.eq_zero_or_pos xs.length with n0 | n0
  ·obtain rfl:xs=[]:=List.eq_nil_of_length_eq_zero n0
   have HF:IntB w R (.returned (.int .i64 0)) w1:=by
    rw [hR]; exact ⟨rfl,hB1⟩
   obtain ⟨ao,cap,rfl,_,_⟩:=hok.sk.shape
   go_wp2
   refine wp_loop_rounds 1 ?_
   rw [rounds_succ]
   go_wp2
   go_ret
   exact HF
  ·have hsk:=hok.sk
   obtain ⟨xb,xoff,xcap,rfl,hx1,hx2,hxc⟩:=hsk.place n0
   have HC:Hid (∀ W,Below (w.heap.size+1) (w.alloc (.cells #[.slice cao cs.length ccap,.slice oao os.length ocap,.map (some mr)] 125)) W→Below w1.heap.size w1 W→∀ i,i<xs.length→W.cell? ⟨xb,xoff+i,none⟩=some (.int .i32 (xs.getD i 0))):=fun W _ hW i hi=>by
    rw [hW.cell (lt_of_cell? (hxc i hi))]; exact hxc i hi
   have HRN:=Hd (fun k hk=>rune_of hsk (i:=k) hk)
   have HSTEP:=Hd (fun a k hk=>Cn.fallsB_step (l:=l) (a:=a) (x:=xs) (k:=k) hk)
   have HRR:=Hd hR
   have HB1:=Hd hb1
   have HBW:=Hd hB1
   go_wp2
   go_loopw [7,9,10,23] (fun a _ _ i wr=>∃ (k:Nat) (z:Int),i=.int .i64 k∧a=.int .i64 z∧k≤xs.length∧Hid (Cn.fallsB l 0 xs=Cn.fallsB l z (xs.drop k))∧Hid (Below w1.heap.size w1 wr)) (fun _ _ _ i _=>xs.length - (intOf i).toNat)
   case atStart=>exact ⟨0,0,rfl,rfl,by omega,by rw [List.drop_zero]; exact rfl,Below.refl _ _⟩
   case round =>
    obtain ⟨k,z,rfl,rfl,hk,HFB,HBR⟩:=hrel
    have hbr:=Uh HBR
    have hb1r:Below (w.heap.size+1) (w.alloc (.cells #[.slice cao cs.length ccap,.slice oao os.length ocap,.map (some mr)] 125)) wr:=(Uh HB1).trans (hbr.mono (by have:=(Uh HB1).size; simp at this; omega))
    have hbwr:Below w.heap.size w wr:=bthen (Uh HBW) hbr
    by_cases hlt:k<xs.length
    ·have a0:=(Uh HC) wr hb1r hbr k hlt
     obtain ⟨y0,y1,y2⟩:=(Uh HX) wr hb1r
     have KK:=Hd ((Uh KC) wr (xs.getD k 0) hbwr ((Uh HRN) k hlt))
     have hst:=(Uh HSTEP) z k hlt
     rw [← Uh HFB] at hst
     have HST:=Hd hst
     generalize Cn.cls l (xs.getD k 0)=n at *
     generalize xs.getD k 0=x at *
     go_wp2_with fail
     refine (Uh KK).mono ?_
     rintro e w2 ⟨rfl,hb2⟩
     have hB2:Below w1.heap.size w1 w2:=bthen (Uh HBR) hb2
     have hBW2:Below w.heap.size w w2:=bthen (Uh HBW) hB2
     by_cases hcond:n≠0∧n<z
     ·have HF:IntB w R (.returned (.int .i64 75)) w2:=by
       have e1:=Uh HRR
       rw [Uh HST,decide_eq_true hcond,Bool.true_or] at e1
       rw [e1]
       exact ⟨rfl,hBW2⟩
      obtain ⟨hn0,hnz⟩:=hcond
      have hq:(n != 0)=true:=by simp [hn0]
      go_wp2
      go_ret
      exact HF
     ·have HFB2:Hid (Cn.fallsB l 0 xs=Cn.fallsB l n (xs.drop (k+1))):=by
       show _=_
       rw [Uh HST,decide_eq_false hcond,Bool.false_or]
      have HB2:=Hd hB2
      by_cases hnz:n<z
      ·have hn0:n=0:=by
        rcases Int.decEq n 0 with h | h
        ·exact absurd ⟨h,hnz⟩ hcond
        ·exact h
       subst hn0
       go_wp2
       go_roundw
       case rel=>exact ⟨k+1,0,by go_num,rfl,by omega,HFB2,HB2⟩
       case measure=>simp [intOf]; omega
      ·clear HC HRN HSTEP HRR HB1 HBW KC HX HST HBR hB2 hBW2 hcond
       go_wp2
       go_roundw
       case rel=>exact ⟨k+1,n,by go_num,rfl,by omega,HFB2,HB2⟩
       case measure=>simp [intOf]; omega
    ·obtain rfl:k=xs.length:=by omega
     have HF:IntB w R (.returned (.int .i64 0)) wr:=by
      have e1:=Uh HRR
      rw [Uh HFB,List.drop_length] at e1
      rw [e1]
      exact ⟨rfl,hbwr⟩
     go_wp2
     go_ret
     exact HF
 ·obtain rfl:=(Uh HR1) he
  have HF:IntB w R (.returned (.int .i64 R)) w1:=⟨rfl,hB1⟩
  have hq:(R != 0)=true:=by simp [he]
  obtain ⟨ao,cap,rfl,_,_⟩:=hok.sk.shape
  go_wp2
  go_ret
  exact HF
end Go.Proofs.YtihhhjodonkkcaaGreatDoor
