/- Cn7 Rc7 Rf7 Rg7 Rh7 Ri7 Rj7 Rk7 Rl7 Rm7 Bx7 -/
import Derived.Test.YtihhhjodonkkcaaGreatDoorX1
import Derived.Deep.QuietTactic
import Derived.BigQuiet
import Derived.Deep.RegionWith
namespace Go.Proofs.YtihhhjodonkkcaaGreatDoor
structure Rec where
 kind:Int
 lo:Int
 hi:Int
 n:Int
 to:List Int
 name:ByteArray
 other:ByteArray
 wt:Nat
namespace Cn
def none:Rec:=⟨0,0,0,0,[],⟨#[]⟩,⟨#[]⟩,0⟩
def fam (k:Int):Int :=
 if k<1∨15<k then 0 else if k≤5 then 1 else if k=6 then 2 else if k≤8 then 3 else k - 5
def step (r:Rec):Int:=if r.kind=4 then max r.n 0 else 1
def speaks (r:Rec) (c:Int):Bool:=decide (r.kind≠15∧0<step r∧0≤c∧c≤1114111∧r.lo≤c∧c≤r.hi∧(c - r.lo) % step r=0)
def findA (f c:Int):Nat→List Rec→Int
 | _,[]=>-1
 | i,r :: l=>if fam r.kind=f∧speaks r c=true then (i:Int) else findA f c (i+1) l
def find (l:List Rec) (f c:Int):Int:=if f=10∨f=0 then -1 else findA f c 0 l
def hit (l:List Rec) (f c:Int):Option Rec:=if find l f c<0 then Option.none else some (l.getD (find l f c).toNat none)
def cls (l:List Rec) (c:Int):Int:=match hit l 2 c with | some r=>r.n | Option.none=>0
def syl (c:Int):Bool:=decide (44032≤c∧c≤55203)
def opn (l:List Rec) (c:Int):List Int :=
 if syl c then (if (c - 44032) % 28=0 then [4352+(c - 44032) / 588,4449+(c - 44032) / 28 % 21] else [c - (c - 44032) % 28,4519+(c - 44032) % 28])
 else match hit l 3 c with | some r=>r.to | Option.none=>[]
def prim (l:List Rec) (c:Int):Option (Int × Int) :=
 if syl c then some ((opn l c).getD 0 0,(opn l c).getD 1 0)
 else match hit l 3 c with
  | some r=>if r.kind=7∧r.to.length=2 then some (r.to.getD 0 0,r.to.getD 1 0) else Option.none
  | Option.none=>Option.none
theorem fam_small k:0≤fam k∧fam k≤10:=by
 unfold fam
 split
 ·omega
 ·omega
theorem findA_step {l:List Rec} {f c k} (hk:k<l.length):findA f c k (l.drop k)=if fam (l.getD k none).kind=f∧speaks (l.getD k none) c=true then (k:Int) else findA f c (k+1) (l.drop (k+1)):=by
 rw [List.drop_eq_getElem_cons hk,findA]
 simp [List.getD,hk]
theorem findA_bound (f c:Int):∀ (l:List Rec) (k:Nat),findA f c k l=-1∨((k:Int)≤findA f c k l∧findA f c k l<k+l.length)
 | [],_=>.inl rfl
 | r :: l,k=>by
  rw [findA]
  split
  ·exact .inr ⟨by omega,by simp; omega⟩
  ·rcases findA_bound f c l (k+1) with h | ⟨h1,h2⟩
   ·exact .inl h
   ·exact .inr ⟨by omega,by simp; omega⟩
theorem find_bound l f c:find l f c=-1∨(0≤find l f c∧find l f c<l.length):=by
 unfold find
 split
 ·exact .inl rfl
 ·rcases findA_bound f c l 0 with h | ⟨h1,h2⟩
  ·exact .inl h
  ·exact .inr ⟨by omega,by omega⟩
end Cn
open Go.RowKit
def I64 (n:Int):Prop:=-9223372036854775808≤n∧n≤9223372036854775807
structure RecFit (r:Rec):Prop where
 kind:I64 r.kind
 lo:I64 r.lo
 hi:I64 r.hi
 n:I64 r.n
 len:r.to.length≤1000000000
 wt:r.wt<18446744073709551616
structure RecAt (w:World) (b o:Nat) (r:Rec):Prop where
 kind:w.cell? ⟨b,o,none⟩=some (.int .i64 r.kind)
 lo:w.cell? ⟨b,o+1,none⟩=some (.int .i64 r.lo)
 hi:w.cell? ⟨b,o+2,none⟩=some (.int .i64 r.hi)
 n:w.cell? ⟨b,o+3,none⟩=some (.int .i64 r.n)
 to:∃ v,w.cell? ⟨b,o+4,none⟩=some v∧Sk .i32 w v r.to
 name:w.cell? ⟨b,o+5,none⟩=some (.string r.name)
 other:w.cell? ⟨b,o+6,none⟩=some (.string r.other)
 wt:w.cell? ⟨b,o+7,none⟩=some (.float .f64 r.wt)
theorem RecAt.below {w w' b o r} (h:RecAt w b o r) (hb:Below w.heap.size w w'):RecAt w' b o r:=by
 obtain ⟨h0,h1,h2,h3,⟨v,h4,h5⟩,h6,h7,h8⟩:=h
 exact ⟨by rw [hb.cell (lt_of_cell? h0)]; exact h0,by rw [hb.cell (lt_of_cell? h1)]; exact h1,by rw [hb.cell (lt_of_cell? h2)]; exact h2,by rw [hb.cell (lt_of_cell? h3)]; exact h3,
  ⟨v,by rw [hb.cell (lt_of_cell? h4)]; exact h4,h5.below hb⟩,by rw [hb.cell (lt_of_cell? h6)]; exact h6,by rw [hb.cell (lt_of_cell? h7)]; exact h7,by rw [hb.cell (lt_of_cell? h8)]; exact h8⟩
def Rcs (w:World) (v:Value) (rs:List Rec):Prop:=rs.length≤1000000000∧(∀ r∈rs,RecFit r) ∧
 ((rs=[]∧∃ ao cap,v=.slice ao 0 cap∧cap≤9223372036854775807) ∨
  ∃ b off cap,v=.slice (some ⟨b,off,none⟩) rs.length cap∧rs.length≤cap∧cap≤9223372036854775807∧∀ i,i<rs.length→RecAt w b (off+i * 8) (rs.getD i Cn.none))
theorem Rcs.below {w w' v rs} (h:Rcs w v rs) (hb:Below w.heap.size w w'):Rcs w' v rs:=by
 obtain ⟨h1,h2,h3⟩:=h
 refine ⟨h1,h2,?_⟩
 rcases h3 with h3 | ⟨b,off,cap,hv,hl,hm,hc⟩
 ·exact .inl h3
 ·exact .inr ⟨b,off,cap,hv,hl,hm,fun i hi=>(hc i hi).below hb⟩
theorem Rcs.shape {w v rs} (h:Rcs w v rs):∃ ao cap,v=.slice ao rs.length cap∧rs.length≤cap∧cap≤9223372036854775807:=by
 rcases h.2.2 with ⟨rfl,ao,cap,hv,hm⟩ | ⟨b,off,cap,hv,hl,hm,_⟩
 ·exact ⟨ao,cap,hv,by simp,hm⟩
 ·exact ⟨_,cap,hv,hl,hm⟩
theorem Rcs.place {w v rs} (h:Rcs w v rs) (hne:0<rs.length):∃ b off cap,v=.slice (some ⟨b,off,none⟩) rs.length cap∧rs.length≤cap∧cap≤9223372036854775807∧∀ i,i<rs.length→RecAt w b (off+i * 8) (rs.getD i Cn.none):=by
 rcases h.2.2 with ⟨rfl,_⟩ | h
 ·simp at hne
 ·exact h
theorem Rcs.fit {w v rs} (h:Rcs w v rs) {i} (hi:i<rs.length):RecFit (rs.getD i Cn.none):=h.2.1 _ (by simp [List.getD,hi])
theorem Rcs.head {w ao len cap k rs} (h:Rcs w (.slice ao len cap) rs) (hk:k≤len):Rcs w (.slice ao k cap) (rs.take k):=by
 obtain ⟨h1,h2,h3⟩:=h
 refine ⟨by simp; omega,fun r hr=>h2 r (List.mem_of_mem_take hr),?_⟩
 rcases h3 with ⟨rfl,ao',cap',hv,hm⟩ | ⟨b,off,cap',hv,hl,hm,hc⟩
 ·grind
 ·simp only [Value.slice.injEq] at hv
  obtain ⟨rfl,rfl,rfl⟩:=hv
  have hkl:(rs.take k).length=k:=by simp; omega
  refine .inr ⟨b,off,cap,by rw [hkl],by omega,hm,fun i hi=>?_⟩
  rw [hkl] at hi
  have:=hc i (by omega)
  rw [show (rs.take k).getD i Cn.none=rs.getD i Cn.none by simp [List.getD,List.getElem?_take_of_lt hi]]
  exact this
def recV (r:Rec) (vt:Value):Value:=.agg #[.int .i64 r.kind,.int .i64 r.lo,.int .i64 r.hi,.int .i64 r.n,vt,.string r.name,.string r.other,.float .f64 r.wt]
def IntB (w:World) (n:Int) (e:Ending) (w':World):Prop:=e=.returned (.int .i64 n)∧Below w.heap.size w w'
def BoolB (w:World) (b:Bool) (e:Ending) (w':World):Prop:=e=.returned (.bool b)∧Below w.heap.size w w'
def famsV:Value:=.agg #[.int .i64 0,.int .i64 1,.int .i64 1,.int .i64 1,.int .i64 1,.int .i64 1,.int .i64 2,.int .i64 3,.int .i64 3,.int .i64 4,.int .i64 5,.int .i64 6,.int .i64 7,.int .i64 8,.int .i64 9,.int .i64 10]
theorem fams_at k (h0:1≤k) (h1:k≤15) w:(Instr.index 163 famsV (.int .i64 k)).run Tryz.prog w=.ok (.int .i64 (Cn.fam k)) w:=by
 have h:k=1∨k=2∨k=3∨k=4∨k=5∨k=6∨k=7∨k=8∨k=9∨k=10∨k=11∨k=12∨k=13∨k=14∨k=15:=by omega
 rcases h with rfl | rfl | rfl | rfl | rfl | rfl | rfl | rfl | rfl | rfl | rfl | rfl | rfl | rfl | rfl <;>
  (simp [famsV,Instr.index,run_underlying Tryz.underlying163,asIntOf,go_sem,Tryz.sizeOf3,Tryz.isAgg3,Cn.fam])
theorem refFamily_any k w (hk:I64 k):Calls Tryz.prog 65 #[.int .i64 k] w fun e w'=>e=.returned (.int .i64 (Cn.fam k))∧w'=w:=by
 obtain ⟨k0,k1⟩:=hk
 by_cases a1:k<1
 ·have hf:Cn.fam k=0:=by unfold Cn.fam; rw [if_pos (.inl a1)]
  rw [hf]
  go_enter Tryz.func65,Tryz.ntmps65
  go_wp2
  go_ret
  exact ⟨rfl,rfl⟩
 ·by_cases a2:15<k
  ·have hf:Cn.fam k=0:=by unfold Cn.fam; rw [if_pos (.inr a2)]
   rw [hf]
   go_enter Tryz.func65,Tryz.ntmps65
   go_wp2
   go_ret
   exact ⟨rfl,rfl⟩
  ·have hidx:=fams_at k (by omega) (by omega)
   unfold famsV at hidx
   go_enter Tryz.func65,Tryz.ntmps65
   go_wp2
   go_ret
   exact ⟨rfl,rfl⟩
theorem refStep_any r vt w (hf:RecFit r):Calls Tryz.prog 107 #[recV r vt] w (IntB w (Cn.step r)):=by
 unfold recV Cn.step
 have hn:=hf.n
 have hk:=hf.kind
 generalize r.kind=kd at *
 generalize r.n=n at *
 obtain ⟨n0,n1⟩:=hn
 obtain ⟨k0,k1⟩:=hk
 by_cases h4:kd=4
 ·subst h4
  rw [if_pos rfl]
  by_cases hp:0≤n
  ·have hm:max n 0=n:=by omega
   rw [hm]
   go_enter Tryz.func107,Tryz.ntmps107
   go_wp2
   go_ret
   exact ⟨rfl,(Below.refl _ _).alloc (Nat.le_refl _) _⟩
  ·have hm:max n 0=0:=by omega
   rw [hm]
   go_enter Tryz.func107,Tryz.ntmps107
   go_wp2
   go_ret
   exact ⟨rfl,(Below.refl _ _).alloc (Nat.le_refl _) _⟩
 ·rw [if_neg h4]
  have q:(kd==4)=false:=beq_eq_false_iff_ne.2 h4
  go_enter Tryz.func107,Tryz.ntmps107
  go_wp2
  go_ret
  exact ⟨rfl,(Below.refl _ _).alloc (Nat.le_refl _) _⟩
theorem u64_diff {c lo} (h0:0≤c) (h1:c≤1114111) (h2:lo≤c) (h3:-9223372036854775808≤lo):∃ L,IntKind.u64.wrap lo=L∧IntKind.u64.wrap (c - L)=c - lo:=by
 refine ⟨_,rfl,?_⟩
 by_cases hn:0≤lo
 ·rw [IntWalk.u64_in lo ⟨by omega,by omega⟩,IntWalk.u64_in _ ⟨by omega,by omega⟩]
 ·have e:IntKind.u64.wrap lo=lo+18446744073709551616:=by
   unfold IntKind.wrap
   have hb:(2:Int) ^ IntKind.u64.bits=18446744073709551616:=by decide
   rw [hb]
   simp [IntKind.signed]
   omega
  rw [e]
  unfold IntKind.wrap
  have hb:(2:Int) ^ IntKind.u64.bits=18446744073709551616:=by decide
  rw [hb]
  simp [IntKind.signed]
  omega
set_option maxHeartbeats 2000000 in
theorem refSpeaks_any r vt c w (hf:RecFit r) (hc:-2147483648≤c∧c≤2147483647):Calls Tryz.prog 86 #[recV r vt,.int .i64 c] w (BoolB w (Cn.speaks r c)):=by
 have K:=Hd (fun w=>refStep_any r vt w hf)
 have hst:Cn.step r≤9223372036854775807:=by
  unfold Cn.step
  have:=hf.n
  unfold I64 at this
  split <;> omega
 have hsp:Cn.speaks r c=decide (r.kind≠15∧0<Cn.step r∧0≤c∧c≤1114111∧r.lo≤c∧c≤r.hi∧(c - r.lo) % Cn.step r=0):=rfl
 rw [hsp]
 have hk:=hf.kind
 have hl:=hf.lo
 have hh:=hf.hi
 unfold recV at *
 generalize Cn.step r=st at *
 generalize r.kind=kd at *
 generalize r.n=n at *
 generalize r.lo=lo at *
 generalize r.hi=hi at *
 generalize r.name=nm at *
 generalize r.other=ot at *
 generalize r.wt=wt at *
 obtain ⟨k0,k1⟩:=hk
 obtain ⟨l0,l1⟩:=hl
 obtain ⟨m0,m1⟩:=hh
 obtain ⟨c0,c1⟩:=hc
 have hcell:∀ W,Below (w.heap.size+1) (w.alloc (.cells #[.int .i64 kd,.int .i64 lo,.int .i64 hi,.int .i64 n,vt,.string nm,.string ot,.float .f64 wt] 59)) W→W.cell? ⟨w.heap.size,0,none⟩=some (.int .i64 kd)∧W.cell? ⟨w.heap.size,1,none⟩=some (.int .i64 lo)∧W.cell? ⟨w.heap.size,2,none⟩=some (.int .i64 hi):=by
  intro W hb
  refine ⟨?_,?_,?_⟩ <;> (rw [hb.cell (by simp)]; simp [World.cell?,World.alloc,-World.alloc_eq])
 have HC:=Hd hcell
 by_cases a1:kd=15
 ·have y0:(kd != 15)=false:=by simp [a1]
  rw [decide_eq_false (fun h=>h.1 a1)]
  subst a1
  go_enter Tryz.func86,Tryz.ntmps86
  go_wp2_with fail
  refine ((Uh K) _).mono ?_
  rintro e w1 ⟨rfl,hb⟩
  obtain ⟨x0,x1,x2⟩:=(Uh HC) w1 (by simpa using hb)
  have HF:BoolB w false (.returned (.bool false)) w1:=⟨rfl,((Below.refl _ _).alloc (Nat.le_refl _) _).trans (hb.mono (by simp))⟩
  go_wp2
  go_ret
  exact HF
 ·have y0:(kd != 15)=true:=by simp [a1]
  by_cases b0:0<st
  rotate_left
  ·rw [decide_eq_false (by omega)]
   go_enter Tryz.func86,Tryz.ntmps86
   go_wp2_with fail
   refine ((Uh K) _).mono ?_
   rintro e w1 ⟨rfl,hb⟩
   obtain ⟨x0,x1,x2⟩:=(Uh HC) w1 (by simpa using hb)
   have HF:BoolB w false (.returned (.bool false)) w1:=⟨rfl,((Below.refl _ _).alloc (Nat.le_refl _) _).trans (hb.mono (by simp))⟩
   go_wp2
   go_ret
   exact HF
  by_cases b1:0≤c
  rotate_left
  ·rw [decide_eq_false (by omega)]
   go_enter Tryz.func86,Tryz.ntmps86
   go_wp2_with fail
   refine ((Uh K) _).mono ?_
   rintro e w1 ⟨rfl,hb⟩
   obtain ⟨x0,x1,x2⟩:=(Uh HC) w1 (by simpa using hb)
   have HF:BoolB w false (.returned (.bool false)) w1:=⟨rfl,((Below.refl _ _).alloc (Nat.le_refl _) _).trans (hb.mono (by simp))⟩
   go_wp2
   go_ret
   exact HF
  by_cases b2:c≤1114111
  rotate_left
  ·rw [decide_eq_false (by omega)]
   go_enter Tryz.func86,Tryz.ntmps86
   go_wp2_with fail
   refine ((Uh K) _).mono ?_
   rintro e w1 ⟨rfl,hb⟩
   obtain ⟨x0,x1,x2⟩:=(Uh HC) w1 (by simpa using hb)
   have HF:BoolB w false (.returned (.bool false)) w1:=⟨rfl,((Below.refl _ _).alloc (Nat.le_refl _) _).trans (hb.mono (by simp))⟩
   go_wp2
   go_ret
   exact HF
  by_cases b3:lo≤c
  rotate_left
  ·rw [decide_eq_false (by omega)]
   go_enter Tryz.func86,Tryz.ntmps86
   go_wp2_with fail
   refine ((Uh K) _).mono ?_
   rintro e w1 ⟨rfl,hb⟩
   obtain ⟨x0,x1,x2⟩:=(Uh HC) w1 (by simpa using hb)
   have HF:BoolB w false (.returned (.bool false)) w1:=⟨rfl,((Below.refl _ _).alloc (Nat.le_refl _) _).trans (hb.mono (by simp))⟩
   go_wp2
   go_ret
   exact HF
  by_cases b4:c≤hi
  rotate_left
  ·rw [decide_eq_false (by omega)]
   go_enter Tryz.func86,Tryz.ntmps86
   go_wp2_with fail
   refine ((Uh K) _).mono ?_
   rintro e w1 ⟨rfl,hb⟩
   obtain ⟨x0,x1,x2⟩:=(Uh HC) w1 (by simpa using hb)
   have HF:BoolB w false (.returned (.bool false)) w1:=⟨rfl,((Below.refl _ _).alloc (Nat.le_refl _) _).trans (hb.mono (by simp))⟩
   go_wp2
   go_ret
   exact HF
  obtain ⟨Lw,e1,e2⟩:=u64_diff b1 b2 b3 l0
  have e0:IntKind.u64.wrap c=c:=IntWalk.u64_in c ⟨by omega,by omega⟩
  have e3:IntKind.u64.wrap st=st:=IntWalk.u64_in st ⟨by omega,by omega⟩
  obtain ⟨q,hq⟩:∃ q,(c - lo).tmod st=q:=⟨_,rfl⟩
  have hq2:(c - lo) % st=q:=by rw [← hq,Int.tmod_eq_emod_of_nonneg (by omega)]
  have est:(st==0)=false:=beq_eq_false_iff_ne.2 (by omega)
  by_cases g:q=0
  ·rw [decide_eq_true ⟨a1,b0,b1,b2,b3,b4,hq2.trans g⟩]
   subst g
   go_enter Tryz.func86,Tryz.ntmps86
   go_wp2_with fail
   refine ((Uh K) _).mono ?_
   rintro e w1 ⟨rfl,hb⟩
   obtain ⟨x0,x1,x2⟩:=(Uh HC) w1 (by simpa using hb)
   have HF:BoolB w true (.returned (.bool true)) w1:=⟨rfl,((Below.refl _ _).alloc (Nat.le_refl _) _).trans (hb.mono (by simp))⟩
   go_wp2
   go_ret
   exact HF
  ·have gq:(q==0)=false:=beq_eq_false_iff_ne.2 g
   rw [decide_eq_false (fun h=>g (hq2.symm.trans h.2.2.2.2.2.2))]
   go_enter Tryz.func86,Tryz.ntmps86
   go_wp2_with fail
   refine ((Uh K) _).mono ?_
   rintro e w1 ⟨rfl,hb⟩
   obtain ⟨x0,x1,x2⟩:=(Uh HC) w1 (by simpa using hb)
   have HF:BoolB w false (.returned (.bool false)) w1:=⟨rfl,((Below.refl _ _).alloc (Nat.le_refl _) _).trans (hb.mono (by simp))⟩
   go_wp2
   go_ret
   exact HF
set_option maxRecDepth 4000 in
set_option maxHeartbeats 4000000 in
theorem refFind_any v rs f c w (hv:Rcs w v rs) (hf:I64 f) (hc:-2147483648≤c∧c≤2147483647):Calls Tryz.prog 54 #[v,.int .i64 f,.int .i32 c] w (IntB w (Cn.find rs f c)):=by
 obtain ⟨f0,f1⟩:=hf
 by_cases h10:f=10
 ·have hF:Cn.find rs f c=-1:=by unfold Cn.find; rw [if_pos (.inl h10)]
  rw [hF]
  subst h10
  obtain ⟨ao,cap,rfl,_,_⟩:=hv.shape
  go_enter Tryz.func54,Tryz.ntmps54
  go_wp2
  go_ret
  exact ⟨rfl,Below.refl _ _⟩
 ·have q1:(f==10)=false:=beq_eq_false_iff_ne.2 h10
  by_cases h0:f=0
  ·have hF:Cn.find rs f c=-1:=by unfold Cn.find; rw [if_pos (.inr h0)]
   rw [hF]
   subst h0
   obtain ⟨ao,cap,rfl,_,_⟩:=hv.shape
   go_enter Tryz.func54,Tryz.ntmps54
   go_wp2
   go_ret
   exact ⟨rfl,Below.refl _ _⟩
  ·have q2:(f==0)=false:=beq_eq_false_iff_ne.2 h0
   have hF:Cn.find rs f c=Cn.findA f c 0 (rs.drop 0):=by unfold Cn.find; rw [if_neg (by omega)]; rfl
   rw [hF]
   have hlen:=hv.1
   have KF:=Hd (fun k w h=>refFamily_any k w h)
   have KS:=Hd (fun r vt w h=>refSpeaks_any r vt c w h hc)
   have HFit:=Hd (fun i hi=>hv.fit (i:=i) hi)
   generalize hres:Cn.findA f c 0 (rs.drop 0)=res
   obtain ⟨c0,c1⟩:=hc
   rcases Nat.eq_zero_or_pos rs.length with n0 | n0
   ·obtain ⟨ao,cap,rfl,_,_⟩:=hv.shape
    obtain rfl:rs=[]:=List.eq_nil_of_length_eq_zero n0
    obtain rfl:-1=res:=hres
    go_enter Tryz.func54,Tryz.ntmps54
    go_wp2
    refine wp_loop_rounds 1 ?_
    rw [rounds_succ]
    go_wp2
    go_ret
    exact ⟨rfl,Below.refl _ _⟩
   ·obtain ⟨b,off,cap,rfl,hl1,hl2,hcells⟩:=hv.place n0
    have HC:Hid (∀ i,i<rs.length→∀ W,Below w.heap.size w W→RecAt W b (off+i * 8) (rs.getD i Cn.none)):=fun i hi W hb=>(hcells i hi).below hb
    have HR:=Hd hres
    go_enter Tryz.func54,Tryz.ntmps54
    go_wp2
    go_loopw [7] (fun iv wr=>∃ k:Nat,iv=.int .i64 k∧k≤rs.length∧Below w.heap.size w wr∧Cn.findA f c k (rs.drop k)=res) (fun iv _=>rs.length - (intOf iv).toNat)
    case atStart=>exact ⟨0,rfl,by omega,Below.refl _ _,Uh HR⟩
    case round =>
     obtain ⟨k,rfl,hk,hbel,hx⟩:=hrel
     by_cases hlt:k<rs.length
     ·have hrec:=(Uh HC) k hlt wr hbel
      have hfit:=(Uh HFit) k hlt
      rw [Cn.findA_step hlt] at hx
      have HX:=Hd hx
      generalize rs.getD k Cn.none=r at *
      obtain ⟨x0,x1,x2,x3,⟨vt,x4,_⟩,x5,x6,x7⟩:=hrec
      have K1:=Hd ((Uh KF) r.kind wr hfit.kind)
      have K2:=Hd ((Uh KS) r vt wr hfit)
      unfold recV at K2
      generalize r.kind=kd at *
      generalize r.wt=wt at *
      by_cases hfam:Cn.fam kd=f
      ·have y0:=Hd (show (Cn.fam kd==f)=true from beq_iff_eq.2 hfam)
       generalize Cn.fam kd=fk at *
       subst hfam
       have y1:(fk==fk)=true:=beq_self_eq_true _
       go_wp2_with fail
       refine (Uh K1).mono ?_
       rintro e w1 ⟨rfl,hw1⟩
       subst w1
       go_wp2_with fail
       refine (Uh K2).mono ?_
       rintro e w1 ⟨rfl,hb1⟩
       have hbel1:Below w.heap.size w w1:=hbel.trans (hb1.mono hbel.size)
       cases hsp:Cn.speaks r c with
       | true =>
        have HF:IntB w res (.returned (.int .i64 (k:Int))) w1:=⟨by rw [← Uh HX,if_pos (by simp [hsp])],hbel1⟩
        go_wp2
        go_ret
        exact HF
       | false =>
        have HY:=Hd ((Uh HX).symm.trans (if_neg (by rw [hsp]; simp)))
        go_wp2
        go_roundw
        case rel=>exact ⟨k+1,by go_num,by omega,hbel1,(Uh HY).symm⟩
        case measure=>simp [intOf]; omega
      ·have y1:(Cn.fam kd==f)=false:=beq_eq_false_iff_ne.2 hfam
       have HY:=Hd ((Uh HX).symm.trans (if_neg (fun h=>hfam h.1)))
       generalize Cn.fam kd=fk at *
       go_wp2_with fail
       refine (Uh K1).mono ?_
       rintro e w1 ⟨rfl,hw1⟩
       subst w1
       go_wp2
       go_roundw
       case rel=>exact ⟨k+1,by go_num,by omega,hbel,(Uh HY).symm⟩
       case measure=>simp [intOf]; omega
     ·obtain rfl:k=rs.length:=by omega
      have hm:(-1:Int)=res:=by rw [← hx,List.drop_eq_nil_of_le (Nat.le_refl _)]; rfl
      have HF:IntB w res (.returned (.int .i64 (-1))) wr:=⟨by rw [hm],hbel⟩
      go_wp2
      go_ret
      exact HF
theorem Tryz.info21:(Tryz.prog.info? 21).map (fun i=>(i.zero,i.size,i.bytes))=some (some (.int .i32 0),1,4):=by kernel_rfl
theorem info_parts {p:Option TypeInfo} {z:Option Value} {s b} (h:p.map (fun i=>(i.zero,i.size,i.bytes))=some (z,s,b)):∃ i,p=some i∧i.zero=z∧i.size=s∧i.bytes=b:=by simp_all
def RunesNew (w:World) (zs:List Int) (e:Ending) (w':World):Prop:=∃ v,e=.returned v∧Ok .i32 21 w' w.heap.size v zs∧Below w.heap.size w w'
def PairB (w:World) (r:Option (Int × Int)) (e:Ending) (w':World):Prop:=e=.returned (.tuple #[.int .i32 ((r.map (·.1)).getD 0),.int .i32 ((r.map (·.2)).getD 0),.bool r.isSome])∧Below w.heap.size w w'
theorem refSyl_any c w (h:-2147483648≤c∧c≤2147483647):Calls Tryz.prog 69 #[.int .i32 c] w fun e w'=>e=.returned (.bool (Cn.syl c))∧w'=w:=by
 obtain ⟨h1,h2⟩:=h
 unfold Cn.syl
 by_cases a1:44032≤c
 ·by_cases a2:c≤55203
  ·rw [decide_eq_true ⟨a1,a2⟩]
   go_enter Tryz.func69,Tryz.ntmps69
   go_wp2
   go_ret
   exact ⟨rfl,rfl⟩
  ·rw [decide_eq_false (fun h=>a2 h.2)]
   go_enter Tryz.func69,Tryz.ntmps69
   go_wp2
   go_ret
   exact ⟨rfl,rfl⟩
 ·rw [decide_eq_false (fun h=>a1 h.1)]
  go_enter Tryz.func69,Tryz.ntmps69
  go_wp2
  go_ret
  exact ⟨rfl,rfl⟩
theorem hit_at {w v rs} (hv:Rcs w v rs) f c:(Cn.find rs f c=-1∧Cn.hit rs f c=none) ∨
  ∃ (k:Nat) (b off cap:Nat),Cn.find rs f c=k∧k<rs.length∧Cn.hit rs f c=some (rs.getD k Cn.none)∧v=.slice (some ⟨b,off,none⟩) rs.length cap∧rs.length≤cap∧cap≤9223372036854775807∧RecAt w b (off+k * 8) (rs.getD k Cn.none)∧RecFit (rs.getD k Cn.none):=by
 rcases Cn.find_bound rs f c with h | ⟨h1,h2⟩
 ·exact .inl ⟨h,by unfold Cn.hit; rw [h]; rfl⟩
 ·obtain ⟨k,hk⟩:∃ k:Nat,Cn.find rs f c=k:=⟨(Cn.find rs f c).toNat,by omega⟩
  have hkl:k<rs.length:=by omega
  obtain ⟨b,off,cap,hv1,hl,hm,hc⟩:=hv.place (by omega)
  refine .inr ⟨k,b,off,cap,hk,hkl,?_,hv1,hl,hm,hc k hkl,hv.fit hkl⟩
  unfold Cn.hit
  rw [hk,if_neg (by omega)]; rfl
theorem refClass_any v rs c w (hv:Rcs w v rs) (hc:-2147483648≤c∧c≤2147483647):Calls Tryz.prog 109 #[v,.int .i32 c] w (IntB w (Cn.cls rs c)):=by
 have K:=Hd (refFind_any v rs 2 c w hv (by unfold I64; omega) hc)
 obtain ⟨c0,c1⟩:=hc
 rcases hit_at hv 2 c with ⟨h1,h2⟩ | ⟨k,b,off,cap,h1,hkl,h2,rfl,hl,hm,hr,hf⟩
 ·have hcl:Cn.cls rs c=0:=by unfold Cn.cls; rw [h2]
  rw [hcl]
  rw [h1] at K
  obtain ⟨ao,cap,rfl,_,_⟩:=hv.shape
  go_enter Tryz.func109,Tryz.ntmps109
  go_wp2_with fail
  refine (Uh K).mono ?_
  rintro e w1 ⟨rfl,hb⟩
  have HF:IntB w 0 (.returned (.int .i64 0)) w1:=⟨rfl,hb⟩
  go_wp2
  go_ret
  exact HF
 ·have hcl:Cn.cls rs c=(rs.getD k Cn.none).n:=by unfold Cn.cls; rw [h2]
  rw [hcl]
  rw [h1] at K
  have HR:=Hd hr
  have hlen:=hv.1
  generalize rs.getD k Cn.none=r at *
  go_enter Tryz.func109,Tryz.ntmps109
  go_wp2_with fail
  refine (Uh K).mono ?_
  rintro e w1 ⟨rfl,hb⟩
  have x3:=((Uh HR).below hb).n
  have HF:IntB w r.n (.returned (.int .i64 r.n)) w1:=⟨rfl,hb⟩
  go_wp2
  go_ret
  exact HF
theorem ok_two (w:World) a b (ha:-2147483648≤a∧a≤2147483647) (hb:-2147483648≤b∧b≤2147483647):Ok .i32 21 (w.alloc (.cells #[.int .i32 a,.int .i32 b] 21)) w.heap.size (.slice (some ⟨w.heap.size,0,none⟩) 2 2) [a,b]:=by
 refine Ok.of (n:=2) (us:=[.int .i32 a,.int .i32 b]) (fun z hz=>?_) (by simp) ⟨rfl,.inr ⟨w.heap.size,2,#[.int .i32 a,.int .i32 b],rfl,Nat.le_refl _,?_,Nat.le_refl _,by unfold maxLen; omega,rfl,rfl⟩⟩ rfl rfl
 ·simp only [List.mem_cons,List.mem_nil_iff,or_false] at hz
  simp only [IntKind.min,IntKind.max,IntKind.signed,IntKind.bits]
  rcases hz with rfl | rfl <;> simp <;> omega
 ·show (w.heap.push _)[w.heap.size]?=_
  simp
set_option maxHeartbeats 2000000 in
set_option maxRecDepth 8000 in
theorem refOpen_any v rs c w (hv:Rcs w v rs) (hc:-2147483648≤c∧c≤2147483647):Calls Tryz.prog 111 #[v,.int .i32 c] w (RunesNew w (Cn.opn rs c)):=by
 obtain ⟨i0,hi,hz0,hz1,hz2⟩:=info_parts Tryz.info21
 have K0:=Hd (refSyl_any c w hc)
 have K:=Hd (refFind_any v rs 3 c w hv (by unfold I64; omega) hc)
 obtain ⟨c0,c1⟩:=hc
 by_cases hs:Cn.syl c=true
 ·have hs2:44032≤c∧c≤55203:=by unfold Cn.syl at hs; simpa using hs
  obtain ⟨s0,s1⟩:=hs2
  rw [hs] at K0
  obtain ⟨ao,cap,rfl,_,_⟩:=hv.shape
  have e1:(c - 44032).tmod 28=(c - 44032) % 28:=Int.tmod_eq_emod_of_nonneg (by omega)
  have e2:(c - 44032).tdiv 588=(c - 44032) / 588:=Int.tdiv_eq_ediv_of_nonneg (by omega)
  have e3:(c - 44032).tdiv 28=(c - 44032) / 28:=Int.tdiv_eq_ediv_of_nonneg (by omega)
  have e4:((c - 44032) / 28).tmod 21=(c - 44032) / 28 % 21:=Int.tmod_eq_emod_of_nonneg (by omega)
  by_cases h28:(c - 44032) % 28=0
  ·have ho:Cn.opn rs c=[4352+(c - 44032) / 588,4449+(c - 44032) / 28 % 21]:=by unfold Cn.opn; rw [if_pos hs,if_pos h28]
   rw [ho]
   have h28b:((c - 44032) % 28==0)=true:=beq_iff_eq.2 h28
   have HF:RunesNew w [4352+(c - 44032) / 588,4449+(c - 44032) / 28 % 21] (.returned (.slice (some ⟨w.heap.size,0,none⟩) 2 2)) (w.alloc (.cells #[.int .i32 (4352+(c - 44032) / 588),.int .i32 (4449+(c - 44032) / 28 % 21)] 21)) :=
    ⟨_,rfl,ok_two w _ _ (by omega) (by omega),(Below.refl _ _).alloc (Nat.le_refl _) _⟩
   go_enter Tryz.func111,Tryz.ntmps111
   go_wp2_with fail
   refine (Uh K0).mono ?_
   rintro e w1 ⟨rfl,hw1⟩
   subst w1
   go_wp2
   go_ret
   exact HF
  ·have ho:Cn.opn rs c=[c - (c - 44032) % 28,4519+(c - 44032) % 28]:=by unfold Cn.opn; rw [if_pos hs,if_neg h28]
   rw [ho]
   have h28b:((c - 44032) % 28==0)=false:=beq_eq_false_iff_ne.2 h28
   have HF:RunesNew w [c - (c - 44032) % 28,4519+(c - 44032) % 28] (.returned (.slice (some ⟨w.heap.size,0,none⟩) 2 2)) (w.alloc (.cells #[.int .i32 (c - (c - 44032) % 28),.int .i32 (4519+(c - 44032) % 28)] 21)) :=
    ⟨_,rfl,ok_two w _ _ (by omega) (by omega),(Below.refl _ _).alloc (Nat.le_refl _) _⟩
   go_enter Tryz.func111,Tryz.ntmps111
   go_wp2_with fail
   refine (Uh K0).mono ?_
   rintro e w1 ⟨rfl,hw1⟩
   subst w1
   go_wp2
   go_ret
   exact HF
 ·have hs2:Cn.syl c=false:=by simpa using hs
  rw [hs2] at K0
  rcases hit_at hv 3 c with ⟨h1,h2⟩ | ⟨k,b,off,cap,h1,hkl,h2,rfl,hl,hm,hr,hf⟩
  ·have ho:Cn.opn rs c=[]:=by unfold Cn.opn; rw [if_neg hs,h2]
   rw [ho]
   rw [h1] at K
   obtain ⟨ao,cap,rfl,_,_⟩:=hv.shape
   go_enter Tryz.func111,Tryz.ntmps111
   go_wp2_with fail
   refine (Uh K0).mono ?_
   rintro e w1 ⟨rfl,hw1⟩
   subst w1
   go_wp2_with fail
   refine (Uh K).mono ?_
   rintro e w1 ⟨rfl,hb⟩
   have HF:RunesNew w [] (.returned (.slice none 0 0)) w1:=⟨_,rfl,Ok.nil _ _ _ _,hb⟩
   go_wp2
   go_ret
   exact HF
  ·have ho:Cn.opn rs c=(rs.getD k Cn.none).to:=by unfold Cn.opn; rw [if_neg hs,h2]
   rw [ho]
   rw [h1] at K
   have HR:=Hd hr
   have hlen:=hv.1
   have hto:=hf.len
   generalize rs.getD k Cn.none=r at *
   go_enter Tryz.func111,Tryz.ntmps111
   go_wp2_with fail
   refine (Uh K0).mono ?_
   rintro e w1 ⟨rfl,hw1⟩
   subst w1
   go_wp2_with fail
   refine (Uh K).mono ?_
   rintro e w1 ⟨rfl,hb⟩
   obtain ⟨vt,x4,hsk⟩:=((Uh HR).below hb).to
   have hB:=hb.size
   have hfit:=hsk.1
   generalize r.to=zs at *
   rcases hsk.2.src with ⟨hnil,rfl⟩ | ⟨ad,tcap,rfl,hsrc⟩
   ·obtain rfl:zs=[]:=by simpa using hnil
    have HF:RunesNew w [] (.returned (.slice none 0 0)) w1:=⟨_,rfl,Ok.nil _ _ _ _,hb⟩
    go_wp2_with (at_builtin; refine wpList_append_own_none rfl (.tmp 36) (.tmp 41) 23 rfl w.heap.size 21 i0 1 Tryz.underlying23 hi _ _ _ rfl (World.ownsRow_nil _ _ _ _) rfl ?_)
    go_wp2
    go_ret
    exact HF
   ·have hml:(zs.map (Value.int .i32)).length=zs.length:=List.length_map _
    rw [hml] at x4
    go_wp2_with (at_builtin; refine wpList_append_own _ rfl (.tmp 36) (.tmp 41) 23 rfl w.heap.size 21 i0 (.int .i32 0) 1 4 Tryz.underlying23 hi hz0 hz1 hz2 rfl (by decide) _ _ _ rfl (World.ownsRow_nil _ _ _ _) ad zs.length tcap (zs.map (Value.int .i32)) rfl (by simp) hsrc (fun u hu=>by obtain ⟨z,_,rfl⟩:=List.mem_map.1 hu; rfl) (by unfold maxLen; omega) (by omega) (by omega) ?_)
    intro v9 w9 hrow9 hg9 _
    have hb9:Below w.heap.size w w9:=hb.grown hg9 hB (fun k hk=>by simp [Value.ownBlock] at hk)
    have HF:RunesNew w zs (.returned v9) w9:=⟨v9,rfl,Ok.of hfit (by omega) hrow9 (by simp) (by simp),hb9⟩
    go_wp2
    go_ret
    exact HF
def Draws (w:World) (b:Bool) (e:Ending) (w':World):Prop:=e=.returned (.bool b)∧∃ m,w'=w.drewN m
theorem drew0 (w:World):∃ m,w=w.drewN m:=⟨0,rfl⟩
theorem drews {w w':World} (h:∃ m,w'=w.drewN m) n:∃ m,w'.drewN n=w.drewN m:=by
 obtain ⟨m,rfl⟩:=h
 exact ⟨m+n,by rw [World.drewN_drewN]⟩
theorem drewB {w w'} (h:∃ m,w'=w.drewN m):Below w.heap.size w w':=by
 obtain ⟨m,rfl⟩:=h
 exact below_drewN (Below.refl _ _) m
theorem ints_at {K} {zs:List Int} {i} (h:i<zs.length):(zs.map (Value.int K)).getD i undef=.int K (zs.getD i 0):=by simp [List.getD,h]
set_option maxHeartbeats 2000000 in
theorem refPrimary_any v rs c w (hv:Rcs w v rs) (hc:-2147483648≤c∧c≤2147483647):Calls Tryz.prog 110 #[v,.int .i32 c] w (PairB w (Cn.prim rs c)):=by
 have K0:=Hd (refSyl_any c w hc)
 have K1:=Hd (refOpen_any v rs c w hv hc)
 have K:=Hd (refFind_any v rs 3 c w hv (by unfold I64; omega) hc)
 obtain ⟨c0,c1⟩:=hc
 by_cases hs:Cn.syl c=true
 ·have hp:Cn.prim rs c=some ((Cn.opn rs c).getD 0 0,(Cn.opn rs c).getD 1 0):=by unfold Cn.prim; rw [if_pos hs]
  have h2:(Cn.opn rs c).length=2:=by unfold Cn.opn; rw [if_pos hs]; split <;> rfl
  rw [hp]
  rw [hs] at K0
  obtain ⟨ao,cap,rfl,_,_⟩:=hv.shape
  generalize Cn.opn rs c=zs at *
  go_enter Tryz.func110,Tryz.ntmps110
  go_wp2_with fail
  refine (Uh K0).mono ?_
  rintro e w1 ⟨rfl,hw1⟩
  subst w1
  go_wp2_with fail
  refine (Uh K1).mono ?_
  rintro e w1 ⟨vx,rfl,hok,hb⟩
  obtain ⟨b,off,xcap,rfl,hx1,hx2,hxc⟩:=hok.sk.2.place (by simp; omega)
  have hml:(zs.map (Value.int .i32)).length=2:=by simp [h2]
  have y0:=hxc 0 (by omega)
  have y1:=hxc 1 (by omega)
  rw [ints_at (by omega)] at y0 y1
  rw [hml] at hx1 ⊢
  rw [Nat.add_zero] at y0
  clear K1 hok hxc hml
  generalize zs.getD 0 0=p at *
  generalize zs.getD 1 0=q at *
  have HF:∀ n,PairB w (some (p,q)) (.returned (.tuple #[.int .i32 p,.int .i32 q,.bool true])) (w1.drewN n):=fun n=>⟨rfl,bthen hb (drewB ⟨n,rfl⟩)⟩
  clear hb
  go_wp2
  go_big_quiet (fail)
  go_wp2
  go_ret3
  exact HF _
 ·have hs2:Cn.syl c=false:=by simpa using hs
  rw [hs2] at K0
  rcases hit_at hv 3 c with ⟨h1,h2⟩ | ⟨k,b,off,cap,h1,hkl,h2,rfl,hl,hm,hr,hf⟩
  ·have hp:Cn.prim rs c=none:=by unfold Cn.prim; rw [if_neg hs,h2]
   rw [hp]
   rw [h1] at K
   obtain ⟨ao,cap,rfl,_,_⟩:=hv.shape
   clear hv h1 h2 hp hs hs2 K1
   go_enter Tryz.func110,Tryz.ntmps110
   go_wp2_with fail
   refine (Uh K0).mono ?_
   rintro e w1 ⟨rfl,hw1⟩
   subst w1
   clear K0
   go_wp2_with fail
   refine (Uh K).mono ?_
   rintro e w1 ⟨rfl,hb⟩
   have HF:PairB w none (.returned (.tuple #[.int .i32 0,.int .i32 0,.bool false])) w1:=⟨rfl,hb⟩
   clear K hb
   go_wp2
   go_ret3
   exact HF
  ·have hp:Cn.prim rs c=if (rs.getD k Cn.none).kind=7∧(rs.getD k Cn.none).to.length=2 then some ((rs.getD k Cn.none).to.getD 0 0,(rs.getD k Cn.none).to.getD 1 0) else none:=by unfold Cn.prim; rw [if_neg hs,h2]
   rw [h1] at K
   have HR:=Hd hr
   have hlen:=hv.1
   have hk7:=hf.kind
   obtain ⟨k70,k71⟩:=hk7
   have hto:=hf.len
   clear hv h1 h2 hs hs2 hr hf K1
   generalize rs.getD k Cn.none=r at *
   have HP1:Hid (r.kind=7→r.to.length=2→Cn.prim rs c=some (r.to.getD 0 0,r.to.getD 1 0)):=fun a b=>by rw [hp,if_pos ⟨a,b⟩]
   have HP2:Hid (¬ (r.kind=7∧r.to.length=2)→Cn.prim rs c=none):=fun a=>by rw [hp,if_neg a]
   clear hp
   generalize Cn.prim rs c=pr at *
   go_enter Tryz.func110,Tryz.ntmps110
   go_wp2_with fail
   refine (Uh K0).mono ?_
   rintro e w1 ⟨rfl,hw1⟩
   subst w1
   clear K0
   go_wp2_with fail
   refine (Uh K).mono ?_
   rintro e w1 ⟨rfl,hb⟩
   have hrec:=(Uh HR).below hb
   obtain ⟨vt,x4,hsk⟩:=hrec.to
   have x0:=hrec.kind
   clear K HR hrec
   generalize r.to=zs at *
   generalize r.kind=kd at *
   obtain ⟨tao,tcap,rfl,ht1,ht2⟩:=hsk.shape
   have HN:PairB w none (.returned (.tuple #[.int .i32 0,.int .i32 0,.bool false])) w1:=⟨rfl,hb⟩
   by_cases h7:kd=7
   ·subst h7
    by_cases hz2:zs.length=2
    ·obtain rfl:=(Uh HP1) rfl hz2
     clear HP1 HP2
     obtain ⟨tb,toff,tcap',he,_,_,htc⟩:=hsk.place (by omega)
     obtain ⟨rfl,rfl⟩:tao=some ⟨tb,toff,none⟩∧tcap=tcap':=by simpa using he
     have y0:=htc 0 (by omega)
     have y1:=htc 1 (by omega)
     rw [Nat.add_zero] at y0
     rw [hz2] at x4 ht1
     generalize zs.getD 0 0=p at *
     generalize zs.getD 1 0=q at *
     have HF:∀ n,PairB w (some (p,q)) (.returned (.tuple #[.int .i32 p,.int .i32 q,.bool true])) (w1.drewN n):=fun n=>⟨rfl,bthen hb (drewB ⟨n,rfl⟩)⟩
     clear hb htc he hsk HN hz2
     go_wp2
     go_big_quiet (fail)
     go_wp2
     go_ret3
     exact HF _
    ·obtain rfl:=(Uh HP2) (fun h=>hz2 h.2)
     clear HP1 HP2
     have q2:((zs.length:Int) != 2)=true:=by simp; omega
     clear hsk hb
     go_wp2
     go_ret3
     exact HN
   ·obtain rfl:=(Uh HP2) (fun h=>h7 h.1)
    clear HP1 HP2
    have q7:(kd != 7)=true:=by simp [h7]
    clear hsk hb
    go_wp2
    go_ret3
    exact HN
set_option maxHeartbeats 1000000 in
theorem same3_eq v u zs w (hv:Sk .i32 w v zs) (hu:Sk .i32 w u zs) (hl:zs.length≤1000000000):Calls Tryz.prog 14 #[v,u] w (Draws w true):=by
 rcases Nat.eq_zero_or_pos zs.length with h0 | h0
 ·obtain ⟨ao,cap,rfl,_,_⟩:=hv.shape
  obtain ⟨ao',cap',rfl,_,_⟩:=hu.shape
  rw [h0]
  go_enter Tryz.func14,Tryz.ntmps14
  go_wp2
  refine wp_loop_rounds 1 ?_
  rw [rounds_succ]
  go_wp2
  go_ret
  exact ⟨rfl,drew0 w⟩
 ·obtain ⟨b,off,cap,rfl,hc1,hc2,hc⟩:=hv.place h0
  obtain ⟨b',off',cap',rfl,hc1',hc2',hc'⟩:=hu.place h0
  have HC:Hid (∀ wr,Below w.heap.size w wr→∀ i,i<zs.length→wr.cell? ⟨b,off+i,none⟩=some (.int .i32 (zs.getD i 0))∧wr.cell? ⟨b',off'+i,none⟩=some (.int .i32 (zs.getD i 0))):=by
   intro wr hb i hi
   have a0:=hc i hi
   have d0:=hc' i hi
   exact ⟨by rw [hb.cell (lt_of_cell? a0)]; exact a0,by rw [hb.cell (lt_of_cell? d0)]; exact d0⟩
  have qn:((zs.length:Int) != (zs.length:Int))=false:=by simp
  go_enter Tryz.func14,Tryz.ntmps14
  go_wp2
  go_loopw [5] (fun i wr=>∃ k:Nat,i=.int .i64 k∧k≤zs.length∧∃ m,wr=w.drewN m) (fun i _=>zs.length - (intOf i).toNat)
  case atStart=>exact ⟨0,rfl,by omega,drew0 w⟩
  case round =>
   obtain ⟨k,rfl,hk,hdr⟩:=hrel
   by_cases hlt:k<zs.length
   ·obtain ⟨a0,d0⟩:=(Uh HC) _ (drewB hdr) k hlt
    generalize zs.getD k 0=t at *
    have ht:(t != t)=false:=by simp
    go_wp2
    go_big_quiet (fail)
    go_wp2
    go_roundw
    case rel=>exact ⟨k+1,by go_num,by omega,drews hdr _⟩
    case measure=>simp [intOf]; omega
   ·clear HC
    go_wp2
    go_ret
    exact ⟨rfl,hdr⟩
theorem Tryz.info59:(Tryz.prog.info? 59).map (fun i=>(i.zero,i.size,i.bytes))=some (some (.agg #[.int .i64 0,.int .i64 0,.int .i64 0,.int .i64 0,.slice none 0 0,.string ⟨#[]⟩,.string ⟨#[]⟩,.float .f64 0]),8,96):=by kernel_rfl
def rcell (p:Rec × Value):List Value:=[.int .i64 p.1.kind,.int .i64 p.1.lo,.int .i64 p.1.hi,.int .i64 p.1.n,p.2,.string p.1.name,.string p.1.other,.float .f64 p.1.wt]
def rcells (ps:List (Rec × Value)):List Value:=ps.flatMap rcell
theorem rcells_length (ps:List (Rec × Value)):(rcells ps).length=ps.length * 8:=by
 induction ps with
 | nil=>rfl
 | cons p ps ih =>
  rw [rcells,List.flatMap_cons,List.length_append] at *
  rw [ih]
  simp [rcell]; omega
theorem rcells_snoc (ps:List (Rec × Value)) (p:Rec × Value):rcells ps++rcell p=rcells (ps++[p]):=by
 rw [rcells,rcells,List.flatMap_append]; simp
theorem rcells_at:∀ (ps:List (Rec × Value)) (i j:Nat),i<ps.length→j<8→(rcells ps)[i * 8+j]?=(rcell (ps.getD i (Cn.none,undef)))[j]?
 | [],i,j,h,_=>by simp at h
 | p :: ps,0,j,_,hj=>by
  rw [rcells,List.flatMap_cons,List.getElem?_append_left (by simp [rcell]; omega)]; simp
 | p :: ps,i+1,j,h,hj=>by
  have ih:=rcells_at ps i j (by simpa using h) hj
  rw [rcells,List.flatMap_cons,List.getElem?_append_right (by simp [rcell]; omega)]
  have e:(i+1) * 8+j - (rcell p).length=i * 8+j:=by simp [rcell]; omega
  rw [e]
  exact ih
def Rown (w:World) (B:Nat) (v:Value) (ps:List (Rec × Value)):Prop:=w.ownsRow B 59 8 v ps.length (rcells ps)∧∀ p∈ps,Ok .i32 21 w B p.2 p.1.to
theorem Rown.rcs {w B v} {ps:List (Rec × Value)} (h:Rown w B v ps) (hl:ps.length≤1000000000) (hf:∀ p∈ps,RecFit p.1):Rcs w v (ps.map (·.1)):=by
 refine ⟨by simpa using hl,fun r hr=>?_,?_⟩
 ·grind
 ·have h3:=h.1
  rcases h.1.2 with ⟨hv,h0⟩ | ⟨g,cap,cur,hv,hg,hh,hn,hcap,hsz,htake⟩
  ·grind
  ·refine .inr ⟨g,0,cap,by rw [hv,List.length_map],by simpa using hn,by unfold maxLen at hcap; omega,fun i hi=>?_⟩
   rw [List.length_map] at hi
   have hm:ps.getD i (Cn.none,undef)∈ps:=by grind
   have hrec:(ps.map (·.1)).getD i Cn.none=(ps.getD i (Cn.none,undef)).1:=by grind
   have hc:∀ j u,j<8→(rcell (ps.getD i (Cn.none,undef)))[j]?=some u→w.cell? ⟨g,0+i * 8+j,none⟩=some u:=by
    intro j u hj hu
    have e:=h3.cells (g:=g) (by rw [hv]; rfl) (i * 8+j) u (by rw [rcells_at ps i j hi hj]; exact hu)
    rw [addr_add] at e
    rw [show 0+i * 8+j=0+(i * 8+j) by omega]; exact e
   rw [hrec]
   exact ⟨hc 0 _ (by omega) rfl,hc 1 _ (by omega) rfl,hc 2 _ (by omega) rfl,hc 3 _ (by omega) rfl,⟨_,hc 4 _ (by omega) rfl,(h.2 _ hm).sk⟩,hc 5 _ (by omega) rfl,hc 6 _ (by omega) rfl,hc 7 _ (by omega) rfl⟩
theorem own_keep {w w':World} {B e sz n:Nat} {v us} (h:w.ownsRow B e sz v n us) (hk:∀ g,v.ownBlock=some g→w'.heap[g]?=w.heap[g]?):w'.ownsRow B e sz v n us:=by
 obtain ⟨h1,h2⟩:=h
 refine ⟨h1,?_⟩
 rcases h2 with h2 | ⟨g,cap,cur,hv,hb,hg,rest⟩
 ·exact .inl h2
 ·exact .inr ⟨g,cap,cur,hv,hb,(hk g (by rw [hv]; rfl)).trans hg,rest⟩
theorem Ok.keep {w w' K e B} {v zs} (h:Ok K e w B v zs) (hk:∀ g,v.ownBlock=some g→w'.heap[g]?=w.heap[g]?):Ok K e w' B v zs:=⟨h.1,h.2.1,own_keep h.2.2 hk⟩
theorem own_apart {w:World} {B B' e e' sz sz' n n':Nat} {v v' us us'} (h:w.ownsRow B e sz v n us) (h':w.ownsRow B' e' sz' v' n' us') (hne:e≠e') {g} (hg:v.ownBlock=some g):v'.ownBlock≠some g:=by
 intro hg'
 rcases h.2 with ⟨rfl,_⟩ | ⟨k,cap,cur,rfl,_,hh,_⟩
 ·cases hg
 ·rcases h'.2 with ⟨rfl,_⟩ | ⟨k',cap',cur',rfl,_,hh',_⟩
  ·cases hg'
  ·simp [Value.ownBlock] at hg hg'
   subst hg; subst hg'
   rw [hh] at hh'
   simp at hh'
   exact hne hh'.2
theorem set_block {w:World} {g j cur e} (h:w.heap[g]?=some (.cells cur e (0,0))) v:(w.setCell ⟨g,j,none⟩ v).heap[g]?=some (.cells (cur.setIfInBounds j v) e (0,0)):=by
 rw [setCell_eq_setRow w g j cur e (0,0) v h]
 exact setRow_heap w g cur _ e _ h
theorem cell_of {w:World} {g j cur e} (h:w.heap[g]?=some (.cells cur e (0,0))) (hj:j<cur.size):w.cell? ⟨g,j,none⟩=some (cur.getD j undef):=by
 simp [World.cell?,h,hj]
theorem frozen_of {w:World} {g j cur e} (h:w.heap[g]?=some (.cells cur e (0,0))):w.frozen? ⟨g,j,none⟩=false:=by
 simp [World.frozen?,h]
def RecsNew (w:World) (rs:List Rec) (e:Ending) (w':World):Prop:=∃ v ps,e=.returned v∧ps.map (·.1)=rs∧Rown w' w.heap.size v ps∧Below w.heap.size w w'
def rarr (r:Rec) (vt:Value):Array Value:=#[.int .i64 r.kind,.int .i64 r.lo,.int .i64 r.hi,.int .i64 r.n,vt,.string r.name,.string r.other,.float .f64 r.wt]
theorem rec_new (W:World) r vt:∀ j u,(rcell (r,vt))[j]?=some u→(W.alloc (.cells (rarr r vt) 59)).cell? ((⟨W.heap.size,0,none⟩:Addr).add j)=some u:=by
 intro j u hj
 have hlt:j<8:=by
  rcases Nat.lt_or_ge j 8 with h | h
  ·exact h
  ·rw [List.getElem?_eq_none (by simp [rcell]; omega)] at hj; cases hj
 rw [addr_add,Nat.zero_add]
 have e:(rarr r vt).toList=rcell (r,vt):=rfl
 simp only [World.cell?,World.alloc]
 simp
 rw [← Array.getElem?_toList,e]
 exact hj
theorem rec_new2 (W:World) n (hn:W.heap.size=n) r vt:∀ j u,(rcell (r,vt))[j]?=some u→(W.alloc (.cells #[.int .i64 r.kind,.int .i64 r.lo,.int .i64 r.hi,.int .i64 r.n,vt,.string r.name,.string r.other,.float .f64 r.wt] 59)).cell? ((⟨n,0,none⟩:Addr).add j)=some u:=by
 subst hn
 exact rec_new W r vt
theorem rec_one r {vt} (h:vt.oneCell'=true):∀ u∈rcell (r,vt),u.oneCell'=true:=by
 intro u hu
 simp only [rcell,List.mem_cons,List.mem_nil_iff,or_false] at hu
 rcases hu with rfl | rfl | rfl | rfl | rfl | rfl | rfl | rfl <;> first | rfl | exact h
theorem set_other {w:World} {g j k} v (h:k≠g):(w.setCell ⟨g,j,none⟩ v).heap[k]?=w.heap[k]?:=Below.heap_setCell _ _ _ _ (fun e=>h e)
theorem below_set {B a w} (h:Below B a w) {g j} (hg:B≤g) v:Below B a (w.setCell ⟨g,j,none⟩ v):=by
 refine h.trans ⟨?_,?_,?_,?_,fun k hk=>set_other v (by omega)⟩
 all_goals first | rfl | (unfold World.setCell; split <;> first | rfl | simp)
theorem set_size (w:World) g j v:(w.setCell ⟨g,j,none⟩ v).heap.size=w.heap.size:=by simp_all
theorem copied_more {w wr w9 w10 mv v9 v10} {ps:List (Rec × Value)} {r vt o} (hown:Rown wr w.heap.size mv ps) (hbel:Below w.heap.size w wr)
  (hok9:Ok .i32 21 w9 w.heap.size v9 r.to) (hg9:(wr.alloc (.cells (rarr r vt) 59)).grownBy w9 (Value.slice none 0 0).ownBlock)
  (hrow:w10.ownsRow w.heap.size 59 8 v10 (ps.length+1) (rcells ps++rcell (r,v9))) (hg10:((w9.setCell ⟨wr.heap.size,4,none⟩ v9).alloc o).grownBy w10 mv.ownBlock) :
  Rown w10 w.heap.size v10 (ps++[(r,v9)])∧Below w.heap.size w w10:=by
 have hB:=hbel.size
 have s9:(wr.alloc (.cells (rarr r vt) 59)).heap.size≤w9.heap.size:=hg9.size
 have s9':wr.heap.size+1≤w9.heap.size:=by simpa using s9
 have k9:∀ g,g<wr.heap.size+1→w9.heap[g]?=(wr.alloc (.cells (rarr r vt) 59)).heap[g]?:=fun g hg=>hg9.block g (by simpa using hg) (by simp [Value.ownBlock])
 have kA:∀ g,g<wr.heap.size→(wr.alloc (.cells (rarr r vt) 59)).heap[g]?=wr.heap[g]?:=fun g hg=>((Below.refl wr.heap.size wr).alloc (Nat.le_refl _) _).block g hg
 have hbox:w9.heap[wr.heap.size]?=some (.cells (rarr r vt) 59 (0,0)):=by
  rw [k9 _ (by omega)]
  show (wr.heap.push _)[wr.heap.size]?=_
  simp
 have m9:w9.ownsRow w.heap.size 59 8 mv ps.length (rcells ps):=own_keep hown.1 (fun g h=>by rw [k9 g (by have:=(hown.1.lt g h).2; omega),kA g (hown.1.lt g h).2])
 have k10:∀ g,g<w9.heap.size→g≠wr.heap.size→mv.ownBlock≠some g→w10.heap[g]?=w9.heap[g]?:=fun g hg h1 h2=>by
  have e1:=hg10.block g (by simp; omega) (fun e=>h2 e.symm)
  rw [e1]
  have e2:((w9.setCell ⟨wr.heap.size,4,none⟩ v9).alloc o).heap[g]?=(w9.setCell ⟨wr.heap.size,4,none⟩ v9).heap[g]?:=((Below.refl _ _).alloc (Nat.le_refl _) _).block g (by rw [set_size]; exact hg)
  rw [e2,set_other v9 h1]
 refine ⟨⟨?_,fun p hp=>?_⟩,?_⟩
 ·rw [rcells_snoc] at hrow
  simpa using hrow
 ·rcases List.mem_append.1 hp with hp | hp
  ·have hop:=hown.2 p hp
   refine hop.keep fun g h=>?_
   have hlt:=(hop.2.2.lt g h).2
   rw [k10 g (by omega) (by omega) (own_apart hop.2.2 hown.1 (by decide) h),k9 g (by omega),kA g hlt]
  ·simp only [List.mem_singleton] at hp
   subst hp
   refine hok9.keep fun g h=>?_
   have hlt:=(hok9.2.2.lt g h).2
   refine k10 g hlt (fun e=>?_) (own_apart hok9.2.2 m9 (by decide) h)
   rcases hok9.2.2.2 with ⟨hv,_⟩ | ⟨g',cap,cur,hv,_,hh,_⟩
   ·rw [hv] at h; cases h
   ·rw [hv] at h
    simp [Value.ownBlock] at h
    rw [h,e,hbox] at hh
    simp at hh
 ·have b1:Below w.heap.size w w9:=(hbel.alloc hB _).grown hg9 (by simp; omega) (fun k hk=>by simp [Value.ownBlock] at hk)
  have b2:=below_set b1 (g:=wr.heap.size) (j:=4) hB v9
  exact (b2.alloc (by rw [set_size]; omega) o).grown hg10 (by simp; omega) (fun k hk=>(hown.1.lt k hk).1)
theorem copied_nil {w wr w10 mv v10} {ps:List (Rec × Value)} {r o1 o} (hown:Rown wr w.heap.size mv ps) (hbel:Below w.heap.size w wr) (hto:r.to=[])
  (hrow:w10.ownsRow w.heap.size 59 8 v10 (ps.length+1) (rcells ps++rcell (r,.slice none 0 0))) (hg10:((wr.alloc o1).alloc o).grownBy w10 mv.ownBlock) :
  Rown w10 w.heap.size v10 (ps++[(r,.slice none 0 0)])∧Below w.heap.size w w10:=by
 have hB:=hbel.size
 refine ⟨⟨?_,fun p hp=>?_⟩,?_⟩
 ·rw [rcells_snoc] at hrow
  simpa using hrow
 ·rcases List.mem_append.1 hp with hp | hp
  ·have hop:=hown.2 p hp
   refine hop.keep fun g h=>?_
   have hlt:=(hop.2.2.lt g h).2
   rw [hg10.block g (by simp; omega) (fun e=>own_apart hop.2.2 hown.1 (by decide) h e.symm)]
   exact (((Below.refl wr.heap.size wr).alloc (Nat.le_refl _) o1).alloc (by simp) o).block g hlt
  ·simp only [List.mem_singleton] at hp
   subst hp
   show Ok .i32 21 w10 w.heap.size (.slice none 0 0) r.to
   rw [hto]
   exact Ok.nil _ _ _ _
 ·exact ((hbel.alloc hB _).alloc (by simp; omega) o).grown hg10 (by simp; omega) (fun k hk=>(hown.1.lt k hk).1)
set_option maxRecDepth 8000 in
set_option maxHeartbeats 8000000 in
theorem refCopied_any v rs w (hv:Rcs w v rs):Calls Tryz.prog 26 #[v] w (RecsNew w rs):=by
 obtain ⟨i0,hi,hz0,hz1,hz2⟩:=info_parts Tryz.info21
 obtain ⟨i1,hj,hy0,hy1,hy2⟩:=info_parts Tryz.info59
 have hlen:=hv.1
 have HFit:=Hd (fun i hi=>hv.fit (i:=i) hi)
 rcases Nat.eq_zero_or_pos rs.length with n0 | n0
 ·obtain ⟨ao,cap,rfl,_,_⟩:=hv.shape
  obtain rfl:rs=[]:=List.eq_nil_of_length_eq_zero n0
  have HF:RecsNew w [] (.returned (.slice none 0 0)) w:=⟨_,[],rfl,rfl,⟨World.ownsRow_nil _ _ _ _,fun _ h=>(by cases h)⟩,Below.refl _ _⟩
  go_enter Tryz.func26,Tryz.ntmps26
  go_wp2
  refine wp_loop_rounds 1 ?_
  rw [rounds_succ]
  go_wp2
  go_ret
  exact HF
 ·obtain ⟨b,off,cap,rfl,hl1,hl2,hcells⟩:=hv.place n0
  have HC:Hid (∀ i,i<rs.length→∀ W,Below w.heap.size w W→RecAt W b (off+i * 8) (rs.getD i Cn.none)):=fun i hi W hb=>(hcells i hi).below hb
  have HTake:Hid (∀ k,k<rs.length→rs.take (k+1)=rs.take k++[rs.getD k Cn.none]):=fun k hk=>by
   rw [List.take_add_one]; simp [List.getD,hk]
  go_enter Tryz.func26,Tryz.ntmps26
  go_wp2
  go_loopw [3,4,5,6] (fun mv iv _ _ wr=>∃ (k:Nat) (ps:List (Rec × Value)),iv=.int .i64 k∧k≤rs.length∧ps.map (·.1)=rs.take k∧ps.length=k∧Rown wr w.heap.size mv ps∧Below w.heap.size w wr) (fun _ iv _ _ _=>rs.length - (intOf iv).toNat)
  case atStart=>exact ⟨0,[],rfl,by omega,by simp,rfl,⟨World.ownsRow_nil _ _ _ _,fun _ h=>(by cases h)⟩,Below.refl _ _⟩
  case round =>
   obtain ⟨k,ps,rfl,hk,hps,hpl,hown,hbel⟩:=hrel
   by_cases hlt:k<rs.length
   ·have hrec:=(Uh HC) k hlt wr hbel
    have hfit:=(Uh HFit) k hlt
    have htk:=(Uh HTake) k hlt
    rw [← hps] at htk
    have hto:=hfit.len
    have HTK:=Hd htk
    generalize rs.getD k Cn.none=r at *
    obtain ⟨x0,x1,x2,x3,⟨vt,x4,hsk⟩,x5,x6,x7⟩:=hrec
    have hB:=hbel.size
    have hskf:=hsk.1
    rcases hsk.2.src with ⟨hnil,rfl⟩ | ⟨ad,tcap,rfl,hsrc⟩
    ·obtain hto0:r.to=[]:=by simpa using hnil
     have hX:∀ o,(wr.alloc o).cell? ⟨b,off+k * 8+4,none⟩=some (.slice none 0 0):=fun o=>by
      rw [Below.cell ((Below.refl wr.heap.size wr).alloc (Nat.le_refl _) o) (lt_of_cell? x4)]; exact x4
     have hfl:∀ W a m,(store a (.float .f64 r.wt) m).run Tryz.prog W=stored Tryz.prog W a (.float .f64 r.wt) m:=fun W a m=>run_store Tryz.prog W a _ m rfl
     have hM:∀ o o2,((wr.alloc o).alloc o2).ownsRow w.heap.size 59 8 u3 ps.length (rcells ps):=fun o o2=>(hown.1.alloc o).alloc o2
     have HM:=Hd hM
     have HMORE:Hid (∀ o v10 w10,World.ownsRow w10 w.heap.size 59 8 v10 (ps.length+1) (rcells ps++rcell (r,.slice none 0 0))→((wr.alloc (.cells #[.int .i64 r.kind,.int .i64 r.lo,.int .i64 r.hi,.int .i64 r.n,.slice none 0 0,.string r.name,.string r.other,.float .f64 r.wt] 59)).alloc o).grownBy w10 u3.ownBlock→Rown w10 w.heap.size v10 (ps++[(r,.slice none 0 0)])∧Below w.heap.size w w10):=fun o v10 w10 a b=>copied_nil hown hbel hto0 a b
     have HNEW:=Hd (rec_new2 (wr.alloc (.cells #[.int .i64 r.kind,.int .i64 r.lo,.int .i64 r.hi,.int .i64 r.n,.slice none 0 0,.string r.name,.string r.other,.float .f64 r.wt] 59)) (wr.heap.size+1) (by simp) r (.slice none 0 0))
     have HONE:=Hd (rec_one r (vt:=.slice none 0 0) rfl)
     go_wp2_with (first | (at_builtin; refine wpList_append_own_none rfl (.tmp 17) (.tmp 22) 23 rfl w.heap.size 21 i0 1 Tryz.underlying23 hi _ _ _ rfl (World.ownsRow_nil _ _ _ _) rfl ?_) | (at_builtin; refine wpList_append_own _ rfl (.tmp 25) (.tmp 27) 22 rfl w.heap.size 59 i1 (.agg #[.int .i64 0,.int .i64 0,.int .i64 0,.int .i64 0,.slice none 0 0,.string ⟨#[]⟩,.string ⟨#[]⟩,.float .f64 0]) 8 96 Tryz.underlying22 hj hy0 hy1 hy2 rfl (by decide) _ _ _ rfl ((Uh HM) _ _) ⟨wr.heap.size+1,0,none⟩ 1 1 (rcell (r,.slice none 0 0)) rfl rfl (Uh HNEW) (Uh HONE) (by unfold maxLen; omega) (by omega) (by simp; omega) ?_))
     intro v10 w10 hrow10 hg10 _
     obtain ⟨hR,hBW⟩:=(Uh HMORE) _ v10 w10 (by rw [hpl]; exact hrow10) hg10
     have HR:=Hd hR
     go_wp2
     go_roundw
     case rel=>exact ⟨k+1,ps++[(r,.slice none 0 0)],by go_num,by omega,by rw [Uh HTK]; simp,by simp [hpl],Uh HR,hBW⟩
     case measure=>simp [intOf]; omega
    ·have hml:(r.to.map (Value.int .i32)).length=r.to.length:=List.length_map _
     rw [hml] at x4
     have hX:∀ o,(wr.alloc o).cell? ⟨b,off+k * 8+4,none⟩=some (.slice (some ad) r.to.length tcap):=fun o=>by
      rw [Below.cell ((Below.refl wr.heap.size wr).alloc (Nat.le_refl _) o) (lt_of_cell? x4)]; exact x4
     have hS:∀ o,∀ j u,(r.to.map (Value.int .i32))[j]?=some u→(wr.alloc o).cell? (ad.add j)=some u:=fun o j u hu=>by
      have h:=hsrc j u hu
      rw [Below.cell ((Below.refl wr.heap.size wr).alloc (Nat.le_refl _) o) (World.block_lt_of_cell? _ _ h)]; exact h
     have HS:=Hd hS
     have hfl:∀ W a m,(store a (.float .f64 r.wt) m).run Tryz.prog W=stored Tryz.prog W a (.float .f64 r.wt) m:=fun W a m=>run_store Tryz.prog W a _ m rfl
     go_wp2_with (at_builtin; refine wpList_append_own _ rfl (.tmp 17) (.tmp 22) 23 rfl w.heap.size 21 i0 (.int .i32 0) 1 4 Tryz.underlying23 hi hz0 hz1 hz2 rfl (by decide) _ _ _ rfl (World.ownsRow_nil _ _ _ _) ad r.to.length tcap (r.to.map (Value.int .i32)) rfl (by simp) ((Uh HS) _) (fun u hu=>by obtain ⟨z,_,rfl⟩:=List.mem_map.1 hu; rfl) (by unfold maxLen; omega) (by omega) (by simp; omega) ?_)
     intro v9 w9 hrow9 hg9 _
     have hok9:Ok .i32 21 w9 w.heap.size v9 r.to:=Ok.of hskf (by omega) hrow9 (by simp) (by simp)
     have hbox:w9.heap[wr.heap.size]?=some (.cells (rarr r (.slice (some ad) r.to.length tcap)) 59 (0,0)):=by
      rw [hg9.block _ (by simp) (by simp [Value.ownBlock])]
      show (wr.heap.push _)[wr.heap.size]?=_
      simp [rarr]
     have s9:wr.heap.size+1≤w9.heap.size:=by simpa using hg9.size
     obtain ⟨ao9,cap9,hv9,_,_⟩:=hok9.sk.shape
     subst hv9
     have hM:∀ o,((w9.setCell ⟨wr.heap.size,4,none⟩ (.slice ao9 r.to.length cap9)).alloc o).ownsRow w.heap.size 59 8 u3 ps.length (rcells ps):=fun o=>by
      refine World.ownsRow.alloc (own_keep hown.1 fun g h=>?_) o
      have hlt9:=(hown.1.lt g h).2
      rw [set_other _ (by omega),hg9.block g (by simp; omega) (by simp [Value.ownBlock])]
      exact ((Below.refl wr.heap.size wr).alloc (Nat.le_refl _) _).block g hlt9
     have HM:=Hd hM
     have HMORE:Hid (∀ o v10 w10,World.ownsRow w10 w.heap.size 59 8 v10 (ps.length+1) (rcells ps++rcell (r,.slice ao9 r.to.length cap9))→((w9.setCell ⟨wr.heap.size,4,none⟩ (.slice ao9 r.to.length cap9)).alloc o).grownBy w10 u3.ownBlock→Rown w10 w.heap.size v10 (ps++[(r,.slice ao9 r.to.length cap9)])∧Below w.heap.size w w10):=fun o v10 w10 a b=>copied_more hown hbel hok9 hg9 a b
     have y0:=cell_of (j:=0) hbox (by show _<8; omega)
     have y1:=cell_of (j:=1) hbox (by show _<8; omega)
     have y2:=cell_of (j:=2) hbox (by show _<8; omega)
     have y3:=cell_of (j:=3) hbox (by show _<8; omega)
     have y4:=cell_of (j:=4) hbox (by show _<8; omega)
     have y5:=cell_of (j:=5) hbox (by show _<8; omega)
     have y6:=cell_of (j:=6) hbox (by show _<8; omega)
     have y7:=cell_of (j:=7) hbox (by show _<8; omega)
     have yf:=frozen_of (j:=4) hbox
     have z0:w9.cell? ⟨wr.heap.size,0,none⟩=some (.int .i64 r.kind):=y0
     have z1:w9.cell? ⟨wr.heap.size,1,none⟩=some (.int .i64 r.lo):=y1
     have z2:w9.cell? ⟨wr.heap.size,2,none⟩=some (.int .i64 r.hi):=y2
     have z3:w9.cell? ⟨wr.heap.size,3,none⟩=some (.int .i64 r.n):=y3
     have z4:w9.cell? ⟨wr.heap.size,4,none⟩=some (.slice (some ad) r.to.length tcap):=y4
     have z5:w9.cell? ⟨wr.heap.size,5,none⟩=some (.string r.name):=y5
     have z6:w9.cell? ⟨wr.heap.size,6,none⟩=some (.string r.other):=y6
     have z7:w9.cell? ⟨wr.heap.size,7,none⟩=some (.float .f64 r.wt):=y7
     have hnew:=rec_new2 (w9.setCell ⟨wr.heap.size,4,none⟩ (.slice ao9 r.to.length cap9)) w9.heap.size (set_size _ _ _ _) r (.slice ao9 r.to.length cap9)
     have hone:=rec_one r (vt:=.slice ao9 r.to.length cap9) rfl
     have HNEW:=Hd hnew
     have HONE:=Hd hone
     go_wp2_with (at_builtin; refine wpList_append_own _ rfl (.tmp 25) (.tmp 27) 22 rfl w.heap.size 59 i1 (.agg #[.int .i64 0,.int .i64 0,.int .i64 0,.int .i64 0,.slice none 0 0,.string ⟨#[]⟩,.string ⟨#[]⟩,.float .f64 0]) 8 96 Tryz.underlying22 hj hy0 hy1 hy2 rfl (by decide) _ _ _ rfl ((Uh HM) _) ⟨w9.heap.size,0,none⟩ 1 1 (rcell (r,.slice ao9 r.to.length cap9)) rfl rfl (Uh HNEW) (Uh HONE) (by unfold maxLen; omega) (by omega) (by simp; omega) ?_)
     intro v10 w10 hrow10 hg10 _
     obtain ⟨hR,hBW⟩:=(Uh HMORE) _ v10 w10 (by rw [hpl]; exact hrow10) hg10
     have HR:=Hd hR
     go_wp2
     go_roundw
     case rel=>exact ⟨k+1,ps++[(r,.slice ao9 r.to.length cap9)],by go_num,by omega,by rw [Uh HTK]; simp,by simp [hpl],Uh HR,hBW⟩
     case measure=>simp [intOf]; omega
   ·obtain rfl:k=rs.length:=by omega
    rw [List.take_length] at hps
    have HF:RecsNew w rs (.returned u3) wr:=⟨u3,ps,rfl,hps,hown,hbel⟩
    go_wp2
    go_ret
    exact HF
theorem run_bits b w:(callFunc 129 #[.float .f64 b]).run Tryz.prog w=.ok (.value (.int .u64 b)) w:=by
 rw [run_callFunc_extern (e:=Extern.MathFloatBits.float64bits) Tryz.func129 (by kernel_rfl) (by kernel_rfl) (by kernel_rfl) (by kernel_rfl)]
 rfl
theorem bits_any b w:Calls Tryz.prog 82 #[.float .f64 b] w fun e w'=>e=.returned (.int .u64 b)∧w'=w:=by
 have h:=fun w=>run_bits b w
 go_enter Tryz.func82,Tryz.ntmps82
 go_wp2
 go_ret
 exact ⟨rfl,rfl⟩
theorem self_beq (t:ByteArray):(t.toList==t.toList)=true:=beq_self_eq_true _
theorem sk_drew {w v zs} (h:Sk .i32 w v zs) n:Sk .i32 (w.drewN n) v zs:=h.below (drewB ⟨n,rfl⟩)
set_option maxRecDepth 4000 in
set_option maxHeartbeats 4000000 in
theorem sameRecord_eq r va vb w (ha:Sk .i32 w va r.to) (hb:Sk .i32 w vb r.to) (hl:r.to.length≤1000000000):Calls Tryz.prog 49 #[recV r va,recV r vb] w (BoolB w true):=by
 have HB:=Hd (fun w=>bits_any r.wt w)
 have KA:Hid (∀ o1 o2 n,Calls Tryz.prog 14 #[va,vb] (((w.alloc o1).alloc o2).drewN n) (Draws (((w.alloc o1).alloc o2).drewN n) true)):=fun o1 o2 n=>by
  have hbw:Below w.heap.size w ((w.alloc o1).alloc o2):=((Below.refl _ _).alloc (Nat.le_refl _) _).alloc (by simp) _
  exact same3_eq va vb r.to _ (sk_drew (ha.below hbw) n) (sk_drew (hb.below hbw) n) hl
 obtain ⟨ao,ca,rfl,_,_⟩:=ha.shape
 obtain ⟨bo,cb,rfl,_,_⟩:=hb.shape
 unfold recV
 have q1:=self_beq r.name
 have q2:=self_beq r.other
 generalize r.kind=kd at *
 generalize r.n=n at *
 generalize r.lo=lo at *
 generalize r.hi=hi at *
 generalize r.name=nm at *
 generalize r.other=ot at *
 generalize r.wt=wt at *
 generalize r.to.length=tl at *
 have q3:(kd==kd)=true:=beq_self_eq_true _
 have q4:(lo==lo)=true:=beq_self_eq_true _
 have q5:(hi==hi)=true:=beq_self_eq_true _
 have q6:(n==n)=true:=beq_self_eq_true _
 have q7:((wt:Int)==(wt:Int))=true:=beq_self_eq_true _
 go_enter Tryz.func49,Tryz.ntmps49
 go_wp2
 go_big_quiet (first | exact Calls.quiet_of ((Uh KA) _ _ _) | exact Calls.quiet_of_same ((Uh HB) _))
 go_wp2
 go_ret
 exact ⟨rfl,(((Below.refl _ _).alloc (Nat.le_refl _) _).alloc (by simp) _).trans ((drewB ⟨_,rfl⟩).mono (by simp; omega))⟩
set_option maxRecDepth 4000 in
set_option maxHeartbeats 4000000 in
theorem sameRecs_eq v u rs w (hv:Rcs w v rs) (hu:Rcs w u rs):Calls Tryz.prog 29 #[v,u] w (BoolB w true):=by
 have hlen:=hv.1
 rcases Nat.eq_zero_or_pos rs.length with h0 | h0
 ·obtain ⟨ao,cap,rfl,_,_⟩:=hv.shape
  obtain ⟨ao',cap',rfl,_,_⟩:=hu.shape
  rw [h0]
  go_enter Tryz.func29,Tryz.ntmps29
  go_wp2
  refine wp_loop_rounds 1 ?_
  rw [rounds_succ]
  go_wp2
  go_ret
  exact ⟨rfl,Below.refl _ _⟩
 ·have HFit:=Hd (fun i hi=>hv.fit (i:=i) hi)
  obtain ⟨b,off,cap,rfl,hc1,hc2,hc⟩:=hv.place h0
  obtain ⟨b',off',cap',rfl,hc1',hc2',hc'⟩:=hu.place h0
  have HC:Hid (∀ i,i<rs.length→∀ W,Below w.heap.size w W→RecAt W b (off+i * 8) (rs.getD i Cn.none)∧RecAt W b' (off'+i * 8) (rs.getD i Cn.none)):=fun i hi W hb=>⟨(hc i hi).below hb,(hc' i hi).below hb⟩
  have qn:((rs.length:Int) != (rs.length:Int))=false:=by simp
  go_enter Tryz.func29,Tryz.ntmps29
  go_wp2
  go_loopw [5] (fun i wr=>∃ k:Nat,i=.int .i64 k∧k≤rs.length∧Below w.heap.size w wr) (fun i _=>rs.length - (intOf i).toNat)
  case atStart=>exact ⟨0,rfl,by omega,Below.refl _ _⟩
  case round =>
   obtain ⟨k,rfl,hk,hbel⟩:=hrel
   by_cases hlt:k<rs.length
   ·obtain ⟨hA,hB⟩:=(Uh HC) k hlt wr hbel
    have hf:=(Uh HFit) k hlt
    have hto:=hf.len
    generalize rs.getD k Cn.none=r at *
    obtain ⟨x0,x1,x2,x3,⟨va,x4,ska⟩,x5,x6,x7⟩:=hA
    obtain ⟨y0,y1,y2,y3,⟨vb,y4,skb⟩,y5,y6,y7⟩:=hB
    have KR:Hid (∀ n,Calls Tryz.prog 49 #[recV r va,recV r vb] (wr.drewN n) (BoolB (wr.drewN n) true)):=fun n=>sameRecord_eq r va vb _ (sk_drew ska n) (sk_drew skb n) hto
    unfold recV at KR
    obtain ⟨ao,ca,rfl,_,_⟩:=ska.shape
    obtain ⟨bo,cb,rfl,_,_⟩:=skb.shape
    generalize r.n=n at *
    generalize r.lo=lo at *
    generalize r.hi=hi at *
    generalize r.name=nm at *
    generalize r.other=ot at *
    generalize r.wt=wt at *
    generalize r.to.length=tl at *
    go_wp2
    go_region_with (refine ((Uh KR) _).mono ?_; rintro e w1 ⟨rfl,hb1⟩)
    all_goals
     have hbw:Below w.heap.size w w1:=hbel.trans (Below.mono (bthen (drewB ⟨_,rfl⟩) hb1) hbel.size)
     go_wp2
     go_roundw
     case rel=>exact ⟨k+1,by go_num,by omega,hbw⟩
     case measure=>simp [intOf]; omega
   ·clear HC HFit
    go_wp2
    go_ret
    exact ⟨rfl,hbel⟩
theorem cells3 {W:World} {p a b c t} (h:W.heap[p]?=some (.cells #[a,b,c] t (0,0))):W.cell? ⟨p,0,none⟩=some a∧W.cell? ⟨p,1,none⟩=some b∧W.cell? ⟨p,2,none⟩=some c:=by simp [World.cell?,h]
theorem cells8 {W:World} {p a b c d e f g i t} (h:W.heap[p]?=some (.cells #[a,b,c,d,e,f,g,i] t (0,0))):W.cell? ⟨p,0,none⟩=some a∧W.cell? ⟨p,1,none⟩=some b∧W.cell? ⟨p,2,none⟩=some c∧W.cell? ⟨p,3,none⟩=some d∧W.cell? ⟨p,4,none⟩=some e∧W.cell? ⟨p,5,none⟩=some f∧W.cell? ⟨p,6,none⟩=some g∧W.cell? ⟨p,7,none⟩=some i:=by simp [World.cell?,h]
theorem set3 {W:World} {p a b c t} x y z (h:W.heap[p]?=some (.cells #[a,b,c] t (0,0))):∃ U,((W.setCell ⟨p,0,none⟩ x).setCell ⟨p,1,none⟩ y).setCell ⟨p,2,none⟩ z=U∧U.heap[p]?=some (.cells #[x,y,z] t (0,0))∧(∀ g,g≠p→U.heap[g]?=W.heap[g]?)∧W.heap.size≤U.heap.size∧∀ B V,B≤p→Below B V W→Below B V U :=
 ⟨_,rfl,set_block (set_block (set_block h _) _) _,fun _ h=>by rw [set_other _ h,set_other _ h,set_other _ h],by rw [set_size,set_size,set_size]; exact Nat.le_refl _,fun _ _ h k=>below_set (below_set (below_set k h _) h _) h _⟩
end Go.Proofs.YtihhhjodonkkcaaGreatDoor
