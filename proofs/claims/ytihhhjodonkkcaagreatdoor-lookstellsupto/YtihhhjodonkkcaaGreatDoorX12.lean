/- Ud9 Ue9 -/
import Derived.Test.YtihhhjodonkkcaaGreatDoorX4
import Derived.Test.YtihhhjodonkkcaaGreatDoorX11
import Derived.Test.YtihhhjodonkkcaaGreatDoorX15
namespace Go.Proofs.YtihhhjodonkkcaaGreatDoor.Cn
open Ti
def dots (v n:Int):Nat→Int→List Tri.Rg
 | 0,_=>[]
 | k+1,c=>(c,c,v) :: dots v n k (c+n)
def spoken (r:Rec) (v:Int):List Tri.Rg :=
 if r.kind≠4∨r.n=1 then [(r.lo,r.hi,v)] else dots v r.n ((r.hi - r.lo) / r.n+1).toNat r.lo
def value (r:Rec):Int:=if r.kind=1 then 1 else if r.kind=2 then 2 else if r.kind=3∨r.kind=4 then 3 else if r.kind=5 then 4 else if r.kind=11 then 1 else r.n
def famOf (f:Int) (rs:List Rec):List Rec:=rs.filter fun r=>decide (fam r.kind=f)
def rangesA (g:Nat→Rec→Int):Nat→List Rec→List Tri.Rg
 | _,[]=>[]
 | i,r :: l=>spoken r (g i r)++rangesA g (i+1) l
theorem dots_mem {v n:Int} {x:Tri.Rg}:∀ (k:Nat) (c:Int),x∈dots v n k c↔∃ j:Nat,j<k∧x=(c+j * n,c+j * n,v)
 | 0,c=>by simp [dots]
 | k+1,c=>by
  rw [dots,List.mem_cons,dots_mem k (c+n)]
  constructor
  ·rintro (rfl | ⟨j,hj,rfl⟩)
   ·exact ⟨0,by omega,by simp⟩
   ·refine ⟨j+1,by omega,?_⟩
    have e:c+n+j * n=c+((j+1:Nat):Int) * n:=by
     rw [Int.natCast_add,Int.add_mul]; simp; omega
    rw [e]
  ·rintro ⟨j,hj,rfl⟩
   cases j with
   | zero=>left; simp
   | succ j =>
    right
    refine ⟨j,by omega,?_⟩
    have e:c+n+j * n=c+((j+1:Nat):Int) * n:=by
     rw [Int.natCast_add,Int.add_mul]; simp; omega
    rw [e]
theorem mul_small {j n:Int} (hj:0≤j) (hn:1≤n):0≤j * n:=Int.mul_nonneg hj (by omega)
theorem spoken_in {r} (h:right r=0) (hk:r.kind≠15) {v} {x:Tri.Rg} (hx:x∈spoken r v):Tri.vl x=v∧0≤Tri.lo x∧Tri.lo x≤Tri.hi x∧Tri.hi x≤1114111∧∀ c,Tri.lo x≤c→c≤Tri.hi x→speaks r c=true:=by
 obtain ⟨s1,s2,s3⟩:=right_span h hk
 have hst:=right_step h
 unfold spoken at hx
 split at hx
 ·rename_i hc
  rw [List.mem_singleton] at hx
  subst hx
  refine ⟨rfl,s1,s2,s3,fun c h1 h2=>?_⟩
  have h1':r.lo≤c:=h1
  have h2':c≤r.hi:=h2
  have e:step r=1:=by
   unfold step
   rcases hc with hc | hc
   ·rw [if_neg hc]
   ·omega
  unfold speaks
  rw [e]
  exact decide_eq_true ⟨hk,by decide,by omega,by omega,h1',h2',Int.emod_one _⟩
 ·rename_i hc
  obtain ⟨h4,hn1⟩:r.kind=4∧r.n≠1:=by
   constructor
   ·omega
   ·exact fun e=>hc (.inr e)
  have es:step r=r.n:=by
   unfold step at hst ⊢
   rw [if_pos h4] at hst ⊢
   omega
  rw [es] at hst
  obtain ⟨j,hj,rfl⟩:=(dots_mem _ _).1 hx
  have hd:0≤(r.hi - r.lo) / r.n:=Int.ediv_nonneg (by omega) (by omega)
  have hj':(j:Int)≤(r.hi - r.lo) / r.n:=by omega
  have hm:(j:Int) * r.n≤r.hi - r.lo:=Int.le_trans (Int.mul_le_mul_of_nonneg_right hj' (by omega)) (Int.ediv_mul_le _ (by omega))
  have hm0:0≤(j:Int) * r.n:=mul_small (by omega) (by omega)
  refine ⟨rfl,by show 0≤r.lo+j * r.n; omega,Int.le_refl _,by show r.lo+j * r.n≤_; omega,fun c h1 h2=>?_⟩
  have h1':r.lo+j * r.n≤c:=h1
  have h2':c≤r.lo+j * r.n:=h2
  obtain rfl:c=r.lo+j * r.n:=by omega
  unfold speaks
  rw [es]
  refine decide_eq_true ⟨hk,by omega,by omega,by omega,by omega,by omega,?_⟩
  rw [show r.lo+j * r.n - r.lo=j * r.n by omega]
  exact Int.mul_emod_left _ _
theorem spoken_of {r} (h:right r=0) v {c} (hs:speaks r c=true):∃ x∈spoken r v,Tri.lo x≤c∧c≤Tri.hi x:=by
 have hst:=right_step h
 unfold speaks at hs
 obtain ⟨_,_,c0,c1,c2,c3,c4⟩:=of_decide_eq_true hs
 unfold spoken
 split
 ·exact ⟨_,List.mem_singleton.2 rfl,c2,c3⟩
 ·rename_i hc
  obtain ⟨h4,hn1⟩:r.kind=4∧r.n≠1:=by
   constructor
   ·omega
   ·exact fun e=>hc (.inr e)
  have es:step r=r.n:=by
   unfold step at hst ⊢
   rw [if_pos h4] at hst ⊢
   omega
  rw [es] at hst c4
  obtain ⟨q,hq⟩:=Int.dvd_of_emod_eq_zero c4
  have hq0:0≤q:=by
   rcases Int.lt_or_le q 0 with hn | hn
   ·exfalso
    have:r.n * q≤r.n * (-1):=Int.mul_le_mul_of_nonneg_left (by omega) (by omega)
    omega
   ·exact hn
  have hq2:q≤(r.hi - r.lo) / r.n:=by
   rw [Int.le_ediv_iff_mul_le (by omega),Int.mul_comm]
   omega
  refine ⟨(c,c,v),(dots_mem _ _).2 ⟨q.toNat,by omega,?_⟩,Int.le_refl _,Int.le_refl _⟩
  rw [show ((q.toNat:Nat):Int)=q by omega,Int.mul_comm q,← hq]
  have:r.lo+(c - r.lo)=c:=by omega
  rw [this]
def Apart (x y:Tri.Rg):Prop:=Tri.hi x<Tri.lo y∨Tri.hi y<Tri.lo x
theorem Apart.symm {x y:Tri.Rg} (h:Apart x y):Apart y x:=Or.symm h
theorem dots_apart {v n:Int} (hn:1≤n):∀ (k:Nat) (c:Int),(dots v n k c).Pairwise Apart
 | 0,_=>List.Pairwise.nil
 | k+1,c=>by
  rw [dots]
  refine List.Pairwise.cons (fun x hx=>?_) (dots_apart hn k (c+n))
  obtain ⟨j,_,rfl⟩:=(dots_mem _ _).1 hx
  have:=mul_small (j:=j) (by omega) hn
  left
  show c<c+n+j * n
  omega
theorem spoken_apart {r} (h:right r=0) v:(spoken r v).Pairwise Apart:=by
 unfold spoken
 split
 ·exact List.pairwise_singleton _ _
 ·rename_i hc
  have hst:=right_step h
  have h4:r.kind=4:=Decidable.byContradiction fun e=>hc (.inl e)
  unfold step at hst
  rw [if_pos h4] at hst
  exact dots_apart (by omega) _ _
theorem rangesA_mem {g:Nat→Rec→Int} {x:Tri.Rg}:∀ (l:List Rec) (i:Nat),x∈rangesA g i l↔∃ k,∃ hk:k<l.length,x∈spoken l[k] (g (i+k) l[k])
 | [],_=>by simp [rangesA]
 | r :: l,i=>by
  rw [rangesA,List.mem_append,rangesA_mem l (i+1)]
  constructor
  ·rintro (h | ⟨k,hk,h⟩)
   ·exact ⟨0,by simp,h⟩
   ·exact ⟨k+1,by simpa using hk,by simpa [Nat.add_assoc,Nat.add_comm 1] using h⟩
  ·rintro ⟨k,hk,h⟩
   cases k with
   | zero=>exact .inl h
   | succ k=>exact .inr ⟨k,by simpa using hk,by simpa [Nat.add_assoc,Nat.add_comm 1] using h⟩
structure Fine (l:List Rec):Prop where
 right:∀ r∈l,right r=0
 notMix:∀ r∈l,r.kind≠15
 apart:l.Pairwise fun a b=>∀ c,¬ (speaks a c=true∧speaks b c=true)
theorem Fine.tail {r l} (h:Fine (r :: l)):Fine l:=⟨fun x hx=>h.1 x (List.mem_cons_of_mem _ hx),fun x hx=>h.2 x (List.mem_cons_of_mem _ hx),(List.pairwise_cons.1 h.3).2⟩
theorem rangesA_apart {g:Nat→Rec→Int}:∀ (l:List Rec) (i:Nat),Fine l→(rangesA g i l).Pairwise Apart
 | [],_,_=>List.Pairwise.nil
 | r :: l,i,h=>by
  rw [rangesA,List.pairwise_append]
  refine ⟨spoken_apart (h.1 r (by simp)) _,rangesA_apart l (i+1) h.tail,fun x hx y hy=>?_⟩
  obtain ⟨k,hk,hy⟩:=(rangesA_mem l (i+1)).1 hy
  obtain ⟨_,_,a1,_,ax⟩:=spoken_in (h.1 r (by simp)) (h.2 r (by simp)) hx
  have hm:l[k]∈r :: l:=List.mem_cons_of_mem _ (List.getElem_mem hk)
  obtain ⟨_,_,b1,_,bx⟩:=spoken_in (h.1 _ hm) (h.2 _ hm) hy
  have hno:=(List.pairwise_cons.1 h.3).1 l[k] (List.getElem_mem hk)
  unfold Apart
  rcases Int.lt_or_le (Tri.hi x) (Tri.lo y) with h1 | h1
  ·exact .inl h1
  ·rcases Int.lt_or_le (Tri.hi y) (Tri.lo x) with h2 | h2
   ·exact .inr h2
   ·exfalso
    rcases Int.le_total (Tri.lo x) (Tri.lo y) with h3 | h3
    ·exact hno (Tri.lo y) ⟨ax _ h3 h1,bx _ (Int.le_refl _) b1⟩
    ·exact hno (Tri.lo x) ⟨ax _ (Int.le_refl _) a1,bx _ h3 h2⟩
theorem val_of:∀ (m:List Tri.Rg) (b:Int),(∀ x∈m,b≤Tri.lo x∧Tri.lo x≤Tri.hi x∧Tri.hi x≤1114111∧0≤Tri.vl x∧Tri.vl x≤65535)→m.Pairwise Apart→m.Pairwise (fun x y=>Tri.lo x≤Tri.lo y)→Tri.Val b m
 | [],_,_,_,_=>trivial
 | x :: m,b,h,ha,hs=>by
  obtain ⟨h1,h2,h3,h4,h5⟩:=h x (by simp)
  obtain ⟨ha1,ha2⟩:=List.pairwise_cons.1 ha
  obtain ⟨hs1,hs2⟩:=List.pairwise_cons.1 hs
  refine ⟨h1,h2,h3,h4,h5,val_of m (Tri.hi x+1) (fun y hy=>?_) ha2 hs2⟩
  obtain ⟨g1,g2,g3,g4,g5⟩:=h y (List.mem_cons_of_mem _ hy)
  have e:=hs1 y hy
  have d:=ha1 y hy
  unfold Apart at d
  exact ⟨by omega,g2,g3,g4,g5⟩
theorem val_low {x:Tri.Rg}:∀ (m:List Tri.Rg) (b:Int),Tri.Val b m→x∈m→b≤Tri.lo x
 | y :: m,b,h,hx=>by
  obtain ⟨g1,g2,_,_,_,g6⟩:=h
  rcases List.mem_cons.1 hx with rfl | hx
  ·exact g1
  ·have:=val_low m _ g6 hx
   omega
theorem get_in {d c:Int} {x:Tri.Rg}:∀ (m:List Tri.Rg) (b:Int),Tri.Val b m→x∈m→Tri.lo x≤c→c≤Tri.hi x→Tri.get d m c=Tri.vl x
 | y :: m,b,h,hx,h1,h2=>by
  obtain ⟨g1,g2,g3,g4,g5,g6⟩:=h
  rw [Tri.get_cons]
  rcases List.mem_cons.1 hx with rfl | hx
  ·rw [if_pos ⟨h1,h2⟩]
  ·have hb:Tri.hi y+1≤Tri.lo x:=val_low m _ g6 hx
   rw [if_neg (by omega)]
   exact get_in m _ g6 hx h1 h2
theorem get_out {d c:Int}:∀ (m:List Tri.Rg),(∀ x∈m,¬ (Tri.lo x≤c∧c≤Tri.hi x))→Tri.get d m c=d
 | [],_=>rfl
 | y :: m,h=>by rw [Tri.get_cons,if_neg (h y (by simp)),get_out m fun x hx=>h x (List.mem_cons_of_mem _ hx)]
theorem trie_of {g:Nat→Rec→Int} {i l} {m:List Tri.Rg} (h:Fine l) (hg:∀ k,(hk:k<l.length)→0≤g (i+k) l[k]∧g (i+k) l[k]≤65535) (hp:m.Perm (rangesA g i l)) (hs:m.Pairwise fun x y=>Tri.lo x≤Tri.lo y) :
  Tri.Val 0 m∧∀ c,(∀ k,(hk:k<l.length)→speaks l[k] c=true→Tri.get 0 m c=g (i+k) l[k])∧((∀ r∈l,speaks r c=false)→Tri.get 0 m c=0):=by
 have hv:Tri.Val 0 m:=by
  refine val_of m 0 (fun x hx=>?_) ((rangesA_apart (g:=g) l i h).perm hp.symm Apart.symm) hs
  obtain ⟨k,hk,hx⟩:=(rangesA_mem l i).1 (hp.mem_iff.1 hx)
  obtain ⟨a1,a2,a3,a4,_⟩:=spoken_in (h.1 _ (List.getElem_mem hk)) (h.2 _ (List.getElem_mem hk)) hx
  have:=hg k hk
  exact ⟨a2,a3,a4,by omega,by omega⟩
 refine ⟨hv,fun c=>⟨fun k hk hsp=>?_,fun hno=>?_⟩⟩
 ·obtain ⟨x,hx,h1,h2⟩:=spoken_of (h.1 _ (List.getElem_mem hk)) (g (i+k) l[k]) hsp
  rw [get_in m 0 hv (hp.mem_iff.2 ((rangesA_mem l i).2 ⟨k,hk,hx⟩)) h1 h2]
  exact (spoken_in (h.1 _ (List.getElem_mem hk)) (h.2 _ (List.getElem_mem hk)) hx).1
 ·refine get_out m fun x hx hc=>?_
  obtain ⟨k,hk,hx⟩:=(rangesA_mem l i).1 (hp.mem_iff.1 hx)
  have:=(spoken_in (h.1 _ (List.getElem_mem hk)) (h.2 _ (List.getElem_mem hk)) hx).2.2.2.2 c hc.1 hc.2
  rw [hno _ (List.getElem_mem hk)] at this
  cases this
theorem famOf_mem {f rs r}:r∈famOf f rs↔r∈rs∧fam r.kind=f:=by simp [famOf]
theorem fine_of {rs f} (h:(check6 rs).2=0) (hf:f≠10∧f≠0):Fine (famOf f rs):=by
 obtain ⟨_,h2,h3⟩:=check6_iff.1 h
 have hk:∀ r:Rec,fam r.kind=f→r.kind≠15:=fun r e e2=>hf.1 (by rw [← e,e2]; decide)
 refine ⟨fun r hr=>h2 r (famOf_mem.1 hr).1,fun r hr=>hk r (famOf_mem.1 hr).2,?_⟩
 have h4:=List.Pairwise.and_mem.1 (h3.filter fun r=>decide (fam r.kind=f))
 refine h4.imp fun {a b} hab c hc=>?_
 obtain ⟨ha,hb,hcl⟩:=hab
 have ha':=famOf_mem.1 ha
 have hb':=famOf_mem.1 hb
 rw [(clash_iff (h2 a ha'.1) (h2 b hb'.1) (ha'.2.trans hb'.2.symm) (hk a ha'.2) (hk b hb'.2)).2 ⟨c,hc⟩] at hcl
 cases hcl
theorem values_get {rs f} (h:(check6 rs).2=0) (hf:f≠10∧f≠0) (hv:∀ r∈rs,fam r.kind=f→0≤value r∧value r≤65535) {m:List Tri.Rg} (hp:m.Perm (rangesA (fun _ r=>value r) 1 (famOf f rs))) (hs:m.Pairwise fun x y=>Tri.lo x≤Tri.lo y) :
  Tri.Val 0 m∧∀ c,Tri.get 0 m c=match hit rs f c with | some r=>value r | Option.none=>0:=by
 obtain ⟨h1,h2⟩:=trie_of (fine_of h hf) (fun k hk=>by have:=famOf_mem.1 (List.getElem_mem hk); exact hv _ this.1 this.2) hp hs
 refine ⟨h1,fun c=>?_⟩
 cases he:hit rs f c with
 | some r =>
  obtain ⟨g1,g2,g3⟩:=(hit_iff h hf r).1 he
  obtain ⟨k,hk,rfl⟩:=List.getElem_of_mem (famOf_mem.2 ⟨g1,g2⟩)
  exact (h2 c).1 k hk g3
 | none=>exact (h2 c).2 fun r hr=>hit_none hf he r (famOf_mem.1 hr).1 (famOf_mem.1 hr).2
theorem places_get {rs f} (h:(check6 rs).2=0) (hf:f≠10∧f≠0) {m:List Tri.Rg} (hp:m.Perm (rangesA (fun i _=>(i:Int)) 1 (famOf f rs))) (hs:m.Pairwise fun x y=>Tri.lo x≤Tri.lo y) :
  Tri.Val 0 m∧∀ c,0≤Tri.get 0 m c∧Tri.get 0 m c≤(famOf f rs).length∧(none :: famOf f rs).getD (Tri.get 0 m c).toNat none=match hit rs f c with | some r=>r | Option.none=>none:=by
 have hlen:(famOf f rs).length≤4096:=Nat.le_trans (List.length_filter_le _ _) (check6_iff.1 h).1
 obtain ⟨h1,h2⟩:=trie_of (fine_of h hf) (fun k hk=>by omega) hp hs
 refine ⟨h1,fun c=>?_⟩
 cases he:hit rs f c with
 | some r =>
  obtain ⟨g1,g2,g3⟩:=(hit_iff h hf r).1 he
  obtain ⟨k,hk,rfl⟩:=List.getElem_of_mem (famOf_mem.2 ⟨g1,g2⟩)
  rw [(h2 c).1 k hk g3]
  refine ⟨by omega,by omega,?_⟩
  rw [show ((1+k:Nat):Int).toNat=k+1 by omega]
  simp [List.getD,hk]
 | none =>
  rw [(h2 c).2 fun r hr=>hit_none hf he r (famOf_mem.1 hr).1 (famOf_mem.1 hr).2]
  exact ⟨by omega,by omega,rfl⟩
end Go.Proofs.YtihhhjodonkkcaaGreatDoor.Cn
namespace Go.Proofs.YtihhhjodonkkcaaGreatDoor
open Go.RowKit
open Ti
set_option maxRecDepth 8000 in
set_option maxHeartbeats 2000000 in
theorem uvalue_any r vt w (hf:RecFit r) (hs:Sk .i32 w vt r.to):Calls Tryz.prog 125 #[recV r vt] w (IntB w (Cn.value r)):=by
 obtain ⟨ao,tc,rfl,_,_⟩:=hs.shape
 unfold recV
 obtain ⟨W0,hW0,hbx,hb0⟩:=box_one w r.kind r.lo r.hi r.n (.slice ao r.to.length tc) r.name r.other r.wt
 obtain ⟨x0,x1,x2,x3,x4,x5,x6,x7⟩:=hbx
 have HB:=Hd hb0
 obtain ⟨k1,k2⟩:=hf.kind
 unfold Cn.value
 generalize r.kind=kd at *
 by_cases e1:kd=1
 ·rw [if_pos e1]; subst e1
  go_enter Tryz.func125,Tryz.ntmps125
  go_wp2
  go_ret
  exact ⟨rfl,Uh HB⟩
 by_cases e2:kd=2
 ·rw [if_neg e1,if_pos e2]; subst e2
  go_enter Tryz.func125,Tryz.ntmps125
  go_wp2
  go_ret
  exact ⟨rfl,Uh HB⟩
 by_cases e3:kd=3
 ·rw [if_neg e1,if_neg e2,if_pos (.inl e3)]; subst e3
  go_enter Tryz.func125,Tryz.ntmps125
  go_wp2
  go_ret
  exact ⟨rfl,Uh HB⟩
 by_cases e4:kd=4
 ·rw [if_neg e1,if_neg e2,if_pos (.inr e4)]; subst e4
  go_enter Tryz.func125,Tryz.ntmps125
  go_wp2
  go_ret
  exact ⟨rfl,Uh HB⟩
 by_cases e5:kd=5
 ·rw [if_neg e1,if_neg e2,if_neg (by omega),if_pos e5]; subst e5
  go_enter Tryz.func125,Tryz.ntmps125
  go_wp2
  go_ret
  exact ⟨rfl,Uh HB⟩
 by_cases e6:kd=11
 ·rw [if_neg e1,if_neg e2,if_neg (by omega),if_neg e5,if_pos e6]; subst e6
  go_enter Tryz.func125,Tryz.ntmps125
  go_wp2
  go_ret
  exact ⟨rfl,Uh HB⟩
 ·rw [if_neg e1,if_neg e2,if_neg (by omega),if_neg e5,if_neg e6]
  have d1:(kd==1)=false:=beq_eq_false_iff_ne.2 e1
  have d2:(kd==2)=false:=beq_eq_false_iff_ne.2 e2
  have d3:(kd==3)=false:=beq_eq_false_iff_ne.2 e3
  have d4:(kd==4)=false:=beq_eq_false_iff_ne.2 e4
  have d5:(kd==5)=false:=beq_eq_false_iff_ne.2 e5
  have d6:(kd==11)=false:=beq_eq_false_iff_ne.2 e6
  go_enter Tryz.func125,Tryz.ntmps125
  go_wp2
  go_ret
  exact ⟨rfl,Uh HB⟩
namespace Cn
theorem run_lt {lo hi n:Int} (hn:1≤n) (h:lo≤hi) (j:Nat):lo+j * n≤hi↔j<((hi - lo) / n+1).toNat:=by
 have h0:0≤(hi - lo) / n:=Int.ediv_nonneg (by omega) (by omega)
 have h1:(j:Int)≤(hi - lo) / n↔(j:Int) * n≤hi - lo:=Int.le_ediv_iff_mul_le (by omega)
 constructor
 ·omega
 ·omega
theorem dots_snoc (v n:Int):∀ (j:Nat) (c:Int),dots v n (j+1) c=dots v n j c++[(c+j * n,c+j * n,v)]
 | 0,c=>by simp [dots]
 | j+1,c=>by
  rw [dots,dots_snoc v n j (c+n),dots,List.cons_append]
  have e:c+n+j * n=c+((j+1:Nat):Int) * n:=by
   rw [Int.natCast_add,Int.add_mul]; simp; omega
  rw [e]
theorem dots_len (v n:Int):∀ (j:Nat) (c:Int),(dots v n j c).length=j
 | 0,_=>rfl
 | j+1,c=>by rw [dots,List.length_cons,dots_len v n j]
end Cn
theorem row_lower3 {w:World} {B B' sz n e v xs} (h:w.ownsRow B e sz v n xs) (hb:B'≤B):w.ownsRow B' e sz v n xs:=by
 obtain ⟨h1,h2⟩:=h
 refine ⟨h1,?_⟩
 rcases h2 with h2 | ⟨g,cap,cur,a,b,c⟩
 ·exact .inl h2
 ·exact .inr ⟨g,cap,cur,a,Nat.le_trans hb b,c⟩
theorem or4_one (w:World) lo hi v (h1:Fi lo) (h2:Fi hi) (h3:Fi v):Or4 (w.alloc (.cells #[.int .i64 lo,.int .i64 hi,.int .i64 v] 218)) w.heap.size (.slice (some ⟨w.heap.size,0,none⟩) 1 1) [(lo,hi,v)]:=by
 refine ⟨fun r hr=>?_,by simp,⟨rfl,.inr ⟨w.heap.size,1,#[.int .i64 lo,.int .i64 hi,.int .i64 v],rfl,Nat.le_refl _,?_,Nat.le_refl _,by unfold maxLen; omega,rfl,rfl⟩⟩⟩
 ·simp only [List.mem_cons,List.mem_nil_iff,or_false] at hr
  subst hr
  exact ⟨h1,h2,h3⟩
 ·show (w.heap.push _)[w.heap.size]?=_
  simp
set_option maxRecDepth 8000 in
set_option maxHeartbeats 4000000 in
theorem uspoken_any r vt v w (hf:RecFit r) (hs:Sk .i32 w vt r.to) (hr:Cn.right r=0) (hk:r.kind≠15) (hv:Fi v):Calls Tryz.prog 124 #[recV r vt,.int .i64 v] w (RgsPost w (Cn.spoken r v)):=by
 obtain ⟨i0,hi0,hz0,hz1,hz2⟩:=info_parts Tryz.info218
 obtain ⟨ao,tc,rfl,_,_⟩:=hs.shape
 obtain ⟨s1,s2,s3⟩:=Cn.right_span hr hk
 have hst:=Cn.right_step hr
 unfold recV
 obtain ⟨W0,hW0,hbx,hb0⟩:=box_one w r.kind r.lo r.hi r.n (.slice ao r.to.length tc) r.name r.other r.wt
 have HBX:Hid (∀ W,Below W0.heap.size W0 W→BoxAt W w.heap.size r.kind r.lo r.hi r.n (.slice ao r.to.length tc) r.name r.other r.wt):=fun W h=>hbx.keep h
 obtain ⟨x0,x1,x2,x3,x4,x5,x6,x7⟩:=hbx
 have HEND:Hid (∀ W u ys,Or4 W W0.heap.size u ys→Below W0.heap.size W0 W→Or4 W w.heap.size u ys∧Below w.heap.size w W):=fun W u ys h1 h2=>⟨⟨h1.1,h1.2.1,row_lower3 h1.2.2 hb0.size⟩,bthen hb0 h2⟩
 obtain ⟨k1,k2⟩:=hf.kind
 obtain ⟨n1,n2⟩:=hf.n
 have hn4:r.kind=4→1≤r.n∧r.n≤64:=fun e=>by
  unfold Cn.step at hst
  rw [if_pos e] at hst
  omega
 by_cases hc:r.kind≠4∨r.n=1
 ·have hsp:Cn.spoken r v=[(r.lo,r.hi,v)]:=by unfold Cn.spoken; rw [if_pos hc]
  rw [hsp]
  have HO:=Hd (or4_one W0 r.lo r.hi v ⟨by omega,by omega⟩ ⟨by omega,by omega⟩ hv)
  generalize r.kind=kd at *
  generalize r.lo=lo at *
  generalize r.hi=hi at *
  generalize r.n=n at *
  generalize r.name=nm at *
  generalize r.other=ot at *
  generalize r.wt=wt at *
  generalize r.to.length=tl at *
  have HR:=Hd ((Uh HEND) _ _ _ (Uh HO) ((Below.refl _ _).alloc (Nat.le_refl _) _))
  by_cases h4:kd=4
  ·subst h4
   obtain rfl:n=1:=by omega
   go_enter Tryz.func124,Tryz.ntmps124
   go_wp2
   go_ret
   exact ⟨_,rfl,Uh HR⟩
  ·have d4:(kd != 4)=true:=by simp [h4]
   go_enter Tryz.func124,Tryz.ntmps124
   go_wp2
   go_ret
   exact ⟨_,rfl,Uh HR⟩
 ·obtain ⟨h4,hn1⟩:r.kind=4∧r.n≠1:=by omega
  obtain ⟨hn2,hn3⟩:=hn4 h4
  have hsp:Cn.spoken r v=Cn.dots v r.n ((r.hi - r.lo) / r.n+1).toNat r.lo:=by unfold Cn.spoken; rw [if_neg hc]
  rw [hsp]
  have HRL:Hid (∀ j:Nat,r.lo+j * r.n≤r.hi↔j<((r.hi - r.lo) / r.n+1).toNat):=fun j=>Cn.run_lt hn2 s2 j
  have HSN:Hid (∀ j:Nat,Cn.dots v r.n (j+1) r.lo=Cn.dots v r.n j r.lo++[(r.lo+j * r.n,r.lo+j * r.n,v)]):=fun j=>Cn.dots_snoc v r.n j r.lo
  have HLN:Hid (∀ j:Nat,(Cn.dots v r.n j r.lo).length=j):=fun j=>Cn.dots_len v r.n j r.lo
  have hml:((r.hi - r.lo) / r.n+1).toNat≤1114112:=by
   have:(r.hi - r.lo) / r.n≤r.hi - r.lo:=Int.ediv_le_self _ (by omega)
   omega
  have d1:(r.n==1)=false:=beq_eq_false_iff_ne.2 hn1
  generalize ((r.hi - r.lo) / r.n+1).toNat=m at *
  generalize r.kind=kd at *
  subst h4
  generalize r.lo=lo at *
  generalize r.hi=hi at *
  generalize r.n=n at *
  generalize r.name=nm at *
  generalize r.other=ot at *
  generalize r.wt=wt at *
  generalize r.to.length=tl at *
  generalize hds:Cn.dots v n m lo=res at *
  have HDS:=Hd hds
  go_enter Tryz.func124,Tryz.ntmps124
  go_wp2
  go_loopw [5,6] (fun lv cv wr=>∃ (j:Nat) (c:Int),cv=.int .i64 c∧c=lo+j * n∧lo≤c∧c≤1114175∧j≤m∧Or4 wr W0.heap.size lv (Cn.dots v n j lo)∧Below W0.heap.size W0 wr) (fun _ cv _=>(1114176 - intOf cv).toNat)
  case atStart=>exact ⟨0,lo,rfl,by simp,by omega,by omega,by omega,Or4.nil _ _,Below.refl _ _⟩
  case round =>
   obtain ⟨j,c,rfl,hcj,hc1,hc2,hj,hor,hbel⟩:=hrel
   obtain ⟨y0,y1,y2,y3,y4,y5,y6,y7⟩:=(Uh HBX) _ hbel
   have HJ:Hid (c≤hi↔j<m):=by
    show _↔_
    rw [hcj]
    exact (Uh HRL) j
   have HS1:Hid (Cn.dots v n (j+1) lo=Cn.dots v n j lo++[(c,c,v)]):=by
    show _=_
    rw [(Uh HSN) j,← hcj]
   have HC1:Hid (c+n=lo+((j+1:Nat):Int) * n):=by
    show _=_
    rw [Int.natCast_add,Int.add_mul,hcj]
    simp
    omega
   have hlj:=(Uh HLN) j
   have hrow:=hor.2.2
   have hfit:=hor.1
   have hsz:=hbel.size
   clear HRL HSN HLN hcj x0 x1 x2 x3 x4 x5 x6 x7
   obtain ⟨v1,v2⟩:=hv
   rw [hlj] at hrow
   clear hor
   generalize hd2:Cn.dots v n j lo=ds at *
   have HD2:=Hd hd2
   clear hd2
   by_cases hle:c≤hi
   ·have hjm:=(Uh HJ).1 hle
    have hr3:=cell3_new wr (c,c,v)
    simp only [Tri.lo_mk,Tri.hi_mk,Tri.vl_mk] at hr3
    have HM:Hid (∀ o,(wr.alloc o).ownsRow W0.heap.size 218 3 u5 j (Ti.rcells ds)):=fun o=>hrow.alloc o
    have HR3:=Hd hr3
    have HMO:Hid (∀ v8 w8 o,w8.ownsRow W0.heap.size 218 3 v8 (j+1) (Ti.rcells ds++Ti.rcells [(c,c,v)])→(wr.alloc o).grownBy w8 u5.ownBlock→Or4 w8 W0.heap.size v8 (ds++[(c,c,v)])∧Below W0.heap.size W0 w8):=fun v8 w8 o hr8 hg8=>by
     refine ⟨⟨fun x hx=>?_,by rw [List.length_append,hlj]; simp; omega,by rw [List.length_append,hlj,Ti.rcells_app]; exact hr8⟩,(hbel.alloc hbel.size o).grown hg8 (hbel.alloc hbel.size o).size (fun g hg=>(hrow.lt g hg).1)⟩
     rcases List.mem_append.1 hx with hx | hx
     ·exact hfit x hx
     ·simp only [List.mem_cons,List.mem_nil_iff,or_false] at hx
      subst hx
      exact ⟨⟨by show _≤c; omega,by show c≤_; omega⟩,⟨by show _≤c; omega,by show c≤_; omega⟩,⟨v1,v2⟩⟩
    clear hrow hr3 hfit hbel hlj HJ
    go_wp2_with (at_builtin; refine wpList_append_own _ rfl (.tmp 32) (.tmp 37) 176 rfl W0.heap.size 218 i0 (.agg #[.int .i64 0,.int .i64 0,.int .i64 0]) 3 24 Tryz.underlying176 hi0 hz0 hz1 hz2 rfl (by decide) _ _ _ rfl ((Uh HM) _) ⟨wr.heap.size,0,none⟩ 1 1 (Ti.rcells [(c,c,v)]) rfl rfl (Uh HR3) (Ti.rcells_one [(c,c,v)]) (by unfold maxLen; omega) (by omega) (by simp; omega) ?_)
    intro v8 w8 hr8 hg8 _
    obtain ⟨hor,hbel⟩:=(Uh HMO) v8 w8 _ hr8 hg8
    obtain ⟨z0,z1,z2,z3,z4,z5,z6,z7⟩:=(Uh HBX) _ hbel
    clear HMO HM HR3 hr8 hg8 y0 y1 y2 y3 y4 y5 y6 y7
    go_wp2
    go_roundw
    case rel=>exact ⟨j+1,c+n,by go_num,Uh HC1,by omega,by omega,by omega,by rw [Uh HS1]; exact hor,hbel⟩
    case measure=>simp [intOf]; omega
   ·have hjm:j=m:=by have:=(Uh HJ).2; omega
    subst hjm
    have HR:=Hd ((Uh HEND) _ _ _ ⟨hfit,by omega,by rw [hlj]; exact hrow⟩ hbel)
    rw [show ds=res from (Uh HD2).symm.trans (Uh HDS)] at HR
    clear HD2 hrow hfit hbel hlj HJ HEND HBX HS1 HC1 HDS
    go_wp2
    go_ret
    exact ⟨_,rfl,Uh HR⟩
end Go.Proofs.YtihhhjodonkkcaaGreatDoor
