/- TbR7 TbS7 TbT7 TbU7 TbV7 TuA7 TuB7 TuC7 -/
import Derived.Test.YtihhhjodonkkcaaGreatDoorX8
import Derived.Test.YtihhhjodonkkcaaGreatDoorX4
import Derived.DeepKeys4
import Derived.WideKeyEntry
import Derived.Deep.AppendLies
import Derived.Deep.RegionHeld3
namespace Go.Proofs.YtihhhjodonkkcaaGreatDoor
open Go.RowKit
structure Run where
 lo:Int
 hi:Int
 s:Int
def Run.ok (x:Run):Prop:=RunOk x.lo x.hi x.s
def Run.val (x:Run):Value:=runV x.lo x.hi x.s
def Run.none:Run:=⟨0,0,0⟩
def Run.meets (x y:Run):Bool:=meetsB x.lo x.hi x.s y.lo y.hi y.s
theorem mA_iff (s hi:Int) (hs:0≤s) (p:Int→Bool):∀ (n:Nat) (c:Int),mA s hi p n c=true↔∃ k:Nat,k<n∧c+k * s≤hi∧p (c+k * s)=true
 | 0,c=>by simp [mA]
 | n+1,c=>by
  rw [mA]
  have e:∀ k:Nat,c+((k+1:Nat):Int) * s=c+s+k * s:=fun k=>by push_cast; rw [Int.add_mul]; omega
  split
  ·next h =>
   constructor
   ·intro h; cases h
   ·rintro ⟨k,_,h2,_⟩
    have:=Int.mul_nonneg (show (0:Int)≤k by omega) hs
    omega
  ·next h =>
   split
   ·next hp=>exact ⟨fun _=>⟨0,by omega,by simp; omega,by simpa using hp⟩,fun _=>rfl⟩
   ·next hp =>
    rw [mA_iff s hi hs p n]
    constructor
    ·rintro ⟨k,h1,h2,h3⟩
     exact ⟨k+1,by omega,by rw [e]; exact h2,by rw [e]; exact h3⟩
    ·rintro ⟨k,h1,h2,h3⟩
     cases k with
     | zero=>exact absurd (by simpa using h3) hp
     | succ k=>rw [e] at h2 h3; exact ⟨k,by omega,h2,h3⟩
theorem from_run {lo hi s c c0} (h:RunOk lo hi s) (hc:c0=fromI lo s c):lo≤c0∧c≤c0∧s∣c0 - lo∧∀ x,lo≤x→c≤x→s∣x - lo→c0≤x:=by
 obtain ⟨_,_,_,s0,_⟩:=h
 unfold fromI at hc
 split at hc
 ·simp_all
 ·next hle =>
  have e:=Int.emod_add_mul_ediv (c - lo) s
  have m0:=Int.emod_nonneg (c - lo) (show s≠0 by omega)
  have m1:=Int.emod_lt_of_pos (c - lo) (show 0<s by omega)
  by_cases hz:(c - lo) % s=0
  ·have hz2:(s - (c - lo) % s) % s=0:=by rw [hz]; simp
   rw [hz2] at hc
   subst hc
   refine ⟨by omega,by omega,?_,fun x _ b _=>by omega⟩
   rw [show c+0 - lo=c - lo by omega]
   exact Int.dvd_of_emod_eq_zero hz
  ·have hz2:(s - (c - lo) % s) % s=s - (c - lo) % s:=Int.emod_eq_of_lt (by omega) (by omega)
   rw [hz2] at hc
   subst hc
   have hd:s∣c+(s - (c - lo) % s) - lo:=by
    rw [show c+(s - (c - lo) % s) - lo=s * ((c - lo) / s)+s * 1 by omega,← Int.mul_add]
    exact Int.dvd_mul_right _ _
   refine ⟨by omega,by omega,hd,fun x a b d=>?_⟩
   obtain ⟨j,hj⟩:=Int.dvd_sub hd d
   rcases Int.lt_or_le 0 j with h' | h'
   ·have:s * 1≤s * j:=Int.mul_le_mul_of_nonneg_left (by omega) (by omega)
    omega
   ·have:=Int.mul_nonpos_of_nonneg_of_nonpos (show 0≤s by omega) h'
    omega
theorem meets_iff {x y:Run} (hx:x.ok) (hy:y.ok):x.meets y=true↔∃ c,Cn.inRun x.lo x.hi x.s c∧Cn.inRun y.lo y.hi y.s c:=by
 have key:∀ {a b:Run},a.ok→b.ok→(mA a.s a.hi (hasB b.lo b.hi b.s) b.s.toNat (fromI a.lo a.s b.lo)=true↔∃ c,Cn.inRun a.lo a.hi a.s c∧Cn.inRun b.lo b.hi b.s c):=by
  intro a b ha hb
  obtain ⟨f1,f2,f3,f4⟩:=from_run (c:=b.lo) ha rfl
  obtain ⟨a0,a1,a2,a3,a4⟩:=ha
  obtain ⟨b0,b1,b2,b3,b4⟩:=hb
  rw [mA_iff a.s a.hi (by omega)]
  generalize fromI a.lo a.s b.lo=c0 at *
  rw [Cn.run_meet (N:=b.s.toNat) (c0:=c0) (by omega) (by omega) (by omega) f1 f2 f3 f4]
  constructor
  ·rintro ⟨k,h1,h2,h3⟩
   unfold hasB at h3
   obtain ⟨_,_,_,g4,_,g6⟩:=of_decide_eq_true h3
   exact ⟨k,h1,h2,g4,Int.dvd_of_emod_eq_zero g6⟩
  ·rintro ⟨k,h1,h2,h3,h4⟩
   have:=Int.mul_nonneg (show (0:Int)≤k by omega) (show 0≤a.s by omega)
   exact ⟨k,h1,h2,decide_eq_true ⟨by omega,by omega,by omega,h3,by omega,Int.emod_eq_zero_of_dvd h4⟩⟩
 unfold Run.meets meetsB
 split
 ·next h =>
  constructor
  ·intro h; cases h
  ·rintro ⟨c,⟨c1,c2,_⟩,c3,c4,_⟩; omega
 ·grind
def runR (r:Rec):Run:=⟨r.lo,r.hi,stepP r⟩
theorem runR_ok {r} (h:Cn.right r=0) (hk:r.kind≠15):(runR r).ok:=by
 have h1:=Cn.right_span h hk
 have h2:=Cn.right_step h
 have:stepP r=Cn.step r:=by
  unfold stepP Cn.step at *
  split
  ·omega
  ·rfl
 exact ⟨h1.1,h1.2.1,h1.2.2,by show 1≤stepP r; omega,by show stepP r≤64; omega⟩
theorem stepP_eq {r} (h:Cn.right r=0):stepP r=Cn.step r:=by
 have h2:=Cn.right_step h
 unfold stepP Cn.step at *
 split
 ·omega
 ·rfl
theorem clash_meets {a b} (ha:Cn.right a=0) (hb:Cn.right b=0) (hf:Cn.fam a.kind=Cn.fam b.kind) (hk:a.kind≠15) (hk':b.kind≠15):Cn.clash a b=(runR b).meets (runR a):=by
 rw [Bool.eq_iff_iff,Cn.clash_iff ha hb hf hk hk',meets_iff (runR_ok hb hk') (runR_ok ha hk)]
 constructor
 ·rintro ⟨c,h1,h2⟩
  refine ⟨c,?_,?_⟩
  ·have:=(Cn.speaks_iff hb hk' c).1 h2
   rw [← stepP_eq hb] at this
   exact this
  ·have:=(Cn.speaks_iff ha hk c).1 h1
   rw [← stepP_eq ha] at this
   exact this
 ·rintro ⟨c,h1,h2⟩
  refine ⟨c,(Cn.speaks_iff ha hk c).2 ?_,(Cn.speaks_iff hb hk' c).2 ?_⟩
  ·rw [← stepP_eq ha]; exact h2
  ·rw [← stepP_eq hb]; exact h1
structure RnAt (w:World) (b o:Nat) (x:Run):Prop where
 lo:w.cell? ⟨b,o,none⟩=some (.int .i64 x.lo)
 hi:w.cell? ⟨b,o+1,none⟩=some (.int .i64 x.hi)
 s:w.cell? ⟨b,o+2,none⟩=some (.int .i64 x.s)
theorem RnAt.below {w w' b o} {x:Run} (h:RnAt w b o x) (hb:Below w.heap.size w w'):RnAt w' b o x :=
 ⟨by rw [hb.cell (lt_of_cell? h.lo)]; exact h.lo,by rw [hb.cell (lt_of_cell? h.hi)]; exact h.hi,by rw [hb.cell (lt_of_cell? h.s)]; exact h.s⟩
def Rns (w:World) (v:Value) (xs:List Run):Prop:=xs.length≤1000000000 ∧
 ((xs=[]∧∃ ao cap,v=.slice ao 0 cap∧cap≤9223372036854775807) ∨
  ∃ b off cap,v=.slice (some ⟨b,off,none⟩) xs.length cap∧xs.length≤cap∧cap≤9223372036854775807∧∀ i,i<xs.length→RnAt w b (off+i * 3) (xs.getD i Run.none))
theorem Rns.below {w w' v} {xs:List Run} (h:Rns w v xs) (hb:Below w.heap.size w w'):Rns w' v xs:=by
 obtain ⟨h1,h3⟩:=h
 refine ⟨h1,?_⟩
 rcases h3 with h3 | ⟨b,off,cap,hv,hl,hm,hc⟩
 ·exact .inl h3
 ·exact .inr ⟨b,off,cap,hv,hl,hm,fun i hi=>(hc i hi).below hb⟩
theorem Rns.shape {w v} {xs:List Run} (h:Rns w v xs):∃ ao cap,v=.slice ao xs.length cap∧xs.length≤cap∧cap≤9223372036854775807:=by
 rcases h.2 with ⟨rfl,ao,cap,hv,hm⟩ | ⟨b,off,cap,hv,hl,hm,_⟩
 ·exact ⟨ao,cap,hv,by simp,hm⟩
 ·exact ⟨_,cap,hv,hl,hm⟩
theorem Rns.place {w v} {xs:List Run} (h:Rns w v xs) (hne:0<xs.length):∃ b off cap,v=.slice (some ⟨b,off,none⟩) xs.length cap∧xs.length≤cap∧cap≤9223372036854775807∧∀ i,i<xs.length→RnAt w b (off+i * 3) (xs.getD i Run.none):=by
 rcases h.2 with ⟨rfl,_⟩ | h
 ·simp at hne
 ·exact h
def fbN (p:Run→Bool):Nat→List Run→Int
 | _,[]=>-1
 | i,r :: l=>if p r then (i:Int) else fbN p (i+1) l
theorem fbN_hit {p:Run→Bool} {rs:List Run} {k x} (hk:k<rs.length) (h:x=fbN p k (rs.drop k)) (hp:p (rs.getD k Run.none)=true):x=(k:Int):=by
 rw [h,List.drop_eq_getElem_cons hk,fbN,if_pos]
 simpa [List.getD,hk] using hp
theorem fbN_next {p:Run→Bool} {rs:List Run} {k x} (hk:k<rs.length) (h:x=fbN p k (rs.drop k)) (hp:p (rs.getD k Run.none)=false):x=fbN p (k+1) (rs.drop (k+1)):=by
 rw [h,List.drop_eq_getElem_cons hk,fbN,if_neg]
 have:p rs[k]=false:=by simpa [List.getD,hk] using hp
 simp [this]
theorem fbN_end {p:Run→Bool} {rs:List Run} {x} (h:x=fbN p rs.length (rs.drop rs.length)):x=-1:=by
 rw [h,List.drop_length,fbN]
theorem fbN_any (p:Run→Bool):∀ (l:List Run) (i:Nat),decide (0≤fbN p i l)=l.any p
 | [],i=>rfl
 | r :: l,i=>by
  rw [fbN,List.any_cons]
  cases hp:p r with
  | true=>simp
  | false=>simpa using fbN_any p l (i+1)
theorem enters_meets:∀ args w,(callFunc 167 args).run Tryz.prog w=.ok (.enter 167 args) w:=by simp_all
def NIn (w:World) (v:Value) (xs:List Run) (W:World):Prop:=Rns W v xs∧Below w.heap.size w W
theorem NIn.on {w W W' v} {xs:List Run} (h:NIn w v xs W) (hb:Below W.heap.size W W'):NIn w v xs W':=⟨h.1.below hb,h.2.trans (hb.mono h.2.size)⟩
set_option maxRecDepth 8000 in
set_option maxHeartbeats 4000000 in
theorem indexRuns_any (x:Run) v (xs:List Run) w (hv:Rns w v xs) (hx:x.ok) (hxs:∀ y∈xs,y.ok) :
  Calls Tryz.prog 188 #[v,.func (.func 167) #[x.val] #[]] w (IntB w (fbN (fun y=>x.meets y) 0 xs)):=by
 have eg:=enters_meets
 have HI0:Hid (NIn w v xs w):=⟨hv,Below.refl _ _⟩
 have HP:Hid (∀ k W,k<xs.length→Calls Tryz.prog 167 #[x.val,(xs.getD k Run.none).val] W (BoolB W (x.meets (xs.getD k Run.none)))):=fun k W hk=>meets_any _ _ _ _ _ _ W hx (hxs _ (by simp [List.getD,hk]))
 have HR0:Hid (fbN (fun y=>x.meets y) 0 xs=fbN (fun y=>x.meets y) 0 (xs.drop 0)):=by rw [List.drop_zero]; rfl
 have hlen:=hv.1
 obtain ⟨ao,cap,rfl,h1,h2⟩:=hv.shape
 unfold Run.val runV at *
 generalize hq:fbN (fun y=>x.meets y) 0 xs=z at *
 go_enter Tryz.func188,Tryz.ntmps188
 go_wp2
 go_loopw [5,8] (fun _ i wr=>∃ k:Nat,i=.int .i64 k∧k≤xs.length∧z=fbN (fun y=>x.meets y) k (xs.drop k)∧NIn w (.slice ao xs.length cap) xs wr) (fun _ i _=>xs.length - (intOf i).toNat)
 case atStart=>exact ⟨0,rfl,by omega,Uh HR0,Uh HI0⟩
 case round =>
  obtain ⟨k,rfl,hk,hr,hin⟩:=hrel
  by_cases hlt:k<xs.length
  ·obtain ⟨b,off,cap',he,hc1,hc2,hc⟩:=hin.1.place (by omega)
   obtain ⟨rfl,rfl⟩:ao=some ⟨b,off,none⟩∧cap=cap':=by simpa using he
   obtain ⟨x0,x1,x2⟩:=hc k hlt
   have HV:=Hd ((Uh HP) k wr hlt)
   have HH:Hid (x.meets (xs.getD k Run.none)=true→z=(k:Int)):=fun h=>fbN_hit hlt hr h
   have HN:Hid (x.meets (xs.getD k Run.none)=false→z=fbN (fun y=>x.meets y) (k+1) (xs.drop (k+1))):=fun h=>fbN_next hlt hr h
   have HIN:=Hd hin
   clear hr hin hc he HP
   generalize x.meets (xs.getD k Run.none)=y at HV HH HN
   generalize (xs.getD k Run.none).lo=lo at *
   generalize (xs.getD k Run.none).hi=hi at *
   generalize (xs.getD k Run.none).s=st at *
   cases y with
   | true =>
    obtain rfl:=(Uh HH) rfl
    go_wp2_with (go_at_fn 167; refine (Uh HV).mono ?_; rintro e w1 ⟨rfl,hb1⟩)
    have HF:=Hd ((Uh HIN).on hb1).2
    go_ret
    exact ⟨rfl,Uh HF⟩
   | false =>
    have HN2:=Hd ((Uh HN) rfl)
    go_wp2_with (go_at_fn 167; refine (Uh HV).mono ?_; rintro e w1 ⟨rfl,hb1⟩)
    have HF:=Hd ((Uh HIN).on hb1)
    go_round
    case rel=>exact ⟨k+1,by go_num,by omega,Uh HN2,Uh HF⟩
    case measure=>simp [intOf]; omega
  ·obtain rfl:k=xs.length:=by omega
   obtain rfl:=fbN_end hr
   have HF:=Hd hin.2
   go_wp2
   go_ret
   exact ⟨rfl,Uh HF⟩
set_option maxRecDepth 8000 in
theorem containsRuns_any (x:Run) v (xs:List Run) w (hv:Rns w v xs) (hx:x.ok) (hxs:∀ y∈xs,y.ok) :
  Calls Tryz.prog 166 #[v,.func (.func 167) #[x.val] #[]] w (BoolB w (xs.any fun y=>x.meets y)):=by
 have K:=Hd (indexRuns_any x v xs w hv hx hxs)
 rw [← fbN_any _ xs 0]
 obtain ⟨ao,cap,rfl,h1,h2⟩:=hv.shape
 unfold Run.val runV at *
 go_enter Tryz.func166,Tryz.ntmps166
 go_wp2_with fail
 refine (Uh K).mono ?_
 rintro e w1 ⟨rfl,hb1⟩
 go_wp2
 go_ret
 exact ⟨rfl,hb1⟩
open Go.RowKit Go.MapKept Go.WideMaps
open Go.ChangeMaps (setBlock)
open Go.WideElems (findIdx_arr findIdx_born)
theorem laidOut7:laidOutB Tryz.prog=true:=by kernel_rfl
theorem pairLaw:KeyLaw Tryz.prog 255:=deep_law_laid laidOut7 (m:=3) (by decide) (of_decide_eq_true (by kernel_rfl)) (by kernel_rfl) (by kernel_rfl)
def pk (a b:ByteArray):Value:=.agg #[.string a,.string b]
theorem cellsPk:Tryz.prog.cellsOf 255=2:=by kernel_rfl
theorem cellsSt:Tryz.prog.cellsOf 9=1:=by kernel_rfl
theorem keyTypePk:Tryz.prog.keyType 255=true:=by kernel_rfl
def Sh (a:ByteArray):Prop:=a.size≤1000
theorem keyLits_str {a} (h:Sh a) D:Tryz.prog.keyLits (D+1) 9 [.string a]=some [.string a.data.toList]:=by
 rw [Program.keyLits.eq_def]
 simp only [Tryz.underlying9]
 rw [if_pos (by unfold Sh at h; unfold maxLen; omega)]
theorem keyLits_pk {a b} (ha:Sh a) (hb:Sh b) D:Tryz.prog.keyLits (D+2) 255 [.string a,.string b]=some [.string a.data.toList,.string b.data.toList]:=by
 rw [Program.keyLits.eq_def]
 simp only [Tryz.underlying255,cellsPk,cellsSt]
 rw [if_pos (show [Value.string a,Value.string b].length=2 from rfl)]
 have e:List.range 2=[0,1]:=rfl
 rw [e]
 simp [List.mapM_cons,keyLits_str ha D,keyLits_str hb D]
theorem pk_key {a b} (ha:Sh a) (hb:Sh b):∃ l,keyOf Tryz.prog 255 (pk a b)=some l:=by
 have hf:(pk a b).formed Tryz.prog 255=true:=by
  simp [pk,Value.formed,Tryz.underlying255,cellsPk]
 obtain ⟨n,hn⟩:∃ n,Tryz.prog.types.size+1=n+2:=⟨Tryz.prog.types.size - 1,by have:0<Tryz.prog.types.size:=of_decide_eq_true (by kernel_rfl); omega⟩
 refine ⟨.string (keyBytes [.string a.data.toList,.string b.data.toList]),?_⟩
 unfold keyOf
 simp only [Tryz.underlying255,keyTypePk,hf,Bool.and_self,if_true,hn]
 show (Tryz.prog.keyLits (n+2) 255 [.string a,.string b]).map _=_
 rw [keyLits_pk ha hb n]
 rfl
theorem pk_inj {a b a' b'} (h:pk a b=pk a' b'):a=a'∧b=b':=by
 unfold pk at h
 simpa using h
structure MObj (es:Array MapEntry) (clock:Nat) (c:ByteArray→ByteArray→Int):Prop where
 st:Stamped es clock
 keys:∀ x∈es.toList,∃ a b,x.key=pk a b∧x.val=.int .i64 (c a b)∧Sh a∧Sh b
 none:∀ a b,(∀ x∈es.toList,x.key≠pk a b)→c a b=0
def MAt (w:World) (r:Nat) (c:ByteArray→ByteArray→Int):Prop:=∃ es clock,w.heap[r]?=some (.map es clock)∧MObj es clock c
theorem MObj.ks {es:Array MapEntry} {clock} {c:ByteArray→ByteArray→Int} (h:MObj es clock c):∀ x∈es.toList,∃ l,keyOf Tryz.prog 255 x.key=some l:=fun x hx=>by
 obtain ⟨a,b,e,_,ha,hb⟩:=h.keys x hx
 rw [e]
 exact pk_key ha hb
theorem run_look {w r} {es:Array MapEntry} {clock} {c:ByteArray→ByteArray→Int} (hb:w.heap[r]?=some (.map es clock)) (h:MObj es clock c) {a b} (ha:Sh a) (hb':Sh b) :
  (Instr.lookup 196 (.map (some r)) (pk a b) false).run Tryz.prog w=.ok (.int .i64 (c a b)) w:=by
 obtain ⟨l,hl⟩:=pk_key ha hb'
 rcases pairLaw.find w hl es.toList h.ks with ⟨h1,h2⟩ | ⟨j,e0,h1,h2,h3⟩
 ·rw [h.none a b h2]
  simp [Instr.lookup,run_underlying Tryz.underlying196,MapKept.run_getObj_map hb,pairLaw.check w _ hl,h1,Result.andThen]
 ·obtain ⟨a',b',e1,e2,_,_⟩:=h.keys e0 (List.mem_of_getElem? h2)
  obtain ⟨rfl,rfl⟩:=pk_inj (e1.symm.trans h3)
  simp [Instr.lookup,run_underlying Tryz.underlying196,MapKept.run_getObj_map hb,pairLaw.check w _ hl,h1,Result.andThen,e2]
theorem modify_same {f:MapEntry→MapEntry}:∀ (l:List MapEntry) (j:Nat) (e0:MapEntry),l[j]?=some e0→f e0=e0→l.modify j f=l
 | [],j,e0,h,_=>by simp at h
 | x :: l,0,e0,h,hf=>by simp at h; subst h; simp [hf]
 | x :: l,j+1,e0,h,hf=>by simp at h; simp [modify_same l j e0 h hf]
def incr (c:ByteArray→ByteArray→Int) (a b:ByteArray):ByteArray→ByteArray→Int:=fun x y=>if x=a∧y=b then c a b+1 else c x y
theorem run_entry {w r} {es:Array MapEntry} {clock} {c:ByteArray→ByteArray→Int} (hb:w.heap[r]?=some (.map es clock)) (h:MObj es clock c) {a b} (ha:Sh a) (hb':Sh b) :
  ∃ (st:Nat) (es1:Array MapEntry) (clock1:Nat),(Instr.mapEntry 196 (.map (some r)) (pk a b)).run Tryz.prog w=.ok (.tuple #[.int .i64 (c a b),goInt st]) (setBlock w r (.map es1 clock1))∧MObj es1 clock1 c ∧
   ∀ W:World,W.heap[r]?=some (.map es1 clock1)→∃ es' clock',(Instr.entryStore 196 (.map (some r)) (goInt st) (.int .i64 (c a b+1))).run Tryz.prog W=.ok () (setBlock W r (.map es' clock'))∧MObj es' clock' (incr c a b):=by
 obtain ⟨l,hl⟩:=pk_key ha hb'
 obtain ⟨s1,s2,s3⟩:=h.st
 rcases pairLaw.find w hl es.toList h.ks with ⟨h1,h2⟩ | ⟨j,e0,h1,h2,h3⟩
 ·have hz:=h.none a b h2
  have hidx:(es.push ⟨pk a b,.int .i64 0,clock⟩).findIdx? (fun e=>((e.born:Nat):Int)==((clock:Nat):Int))=some es.size:=by grind
  refine ⟨clock,es.push ⟨pk a b,.int .i64 0,clock⟩,clock+1,?_,⟨stamped_push h.st h2,fun x hx=>?_,fun a' b' hn=>?_⟩,fun W hW=>⟨(es.push ⟨pk a b,.int .i64 0,clock⟩).modify es.size (fun e=>{ e with val:=.int .i64 (c a b+1) }),clock+1,?_,?_⟩⟩
  ·rw [hz]
   simp [Instr.mapEntry,run_underlying Tryz.underlying196,MapKept.run_getObj_map hb,pairLaw.check w false hl,h1,MapKept.run_setObj_map _ hb,Result.andThen,setBlock]
  ·simp only [Array.toList_push,List.mem_append,List.mem_singleton] at hx
   rcases hx with hx | rfl
   ·exact h.keys x hx
   ·exact ⟨a,b,rfl,by rw [hz],ha,hb'⟩
  ·exact h.none a' b' fun x hx=>hn x (by simp [hx])
  ·simp [Instr.entryStore,MapKept.run_getObj_map hW,MapKept.run_setObj_map _ hW,hidx,Result.andThen,setBlock,goInt,asInt,asIntOf]
  ·have hm:((es.push ⟨pk a b,.int .i64 0,clock⟩).modify es.size (fun e=>{ e with val:=.int .i64 (c a b+1) })).toList=es.toList++[⟨pk a b,.int .i64 (c a b+1),clock⟩]:=by
    rw [Array.toList_modify,Array.toList_push,← Array.length_toList]
    exact Go.WideElems.modify_last _ _ _
   refine ⟨stamped_modify (stamped_push h.st h2) _ _ (fun _ _=>rfl) (fun _ _ _=>rfl),fun x hx=>?_,fun a' b' hn=>?_⟩
   ·rw [hm] at hx
    simp only [List.mem_append,List.mem_singleton] at hx
    rcases hx with hx | rfl
    ·obtain ⟨a',b',e1,e2,e3,e4⟩:=h.keys x hx
     refine ⟨a',b',e1,?_,e3,e4⟩
     unfold incr
     rw [if_neg,e2]
     rintro ⟨rfl,rfl⟩
     exact h2 x hx e1
    ·exact ⟨a,b,rfl,by unfold incr; rw [if_pos ⟨rfl,rfl⟩],ha,hb'⟩
   ·rw [hm] at hn
    unfold incr
    rw [if_neg]
    ·exact h.none a' b' fun x hx=>hn x (by simp [hx])
    ·rintro ⟨rfl,rfl⟩
     exact hn ⟨pk a' b',.int .i64 (c a' b'+1),clock⟩ (by simp) rfl
 ·have hmem:=List.mem_of_getElem? h2
  obtain ⟨a',b',e1,e2,_,_⟩:=h.keys e0 hmem
  obtain ⟨rfl,rfl⟩:=pk_inj (e1.symm.trans h3)
  have hj:es[j]?=some e0:=by rw [← Array.getElem?_toList]; exact h2
  have hsame:es.modify j (fun e=>{ e with key:=pk a' b' })=es:=by
   apply Array.toList_inj.1
   rw [Array.toList_modify]
   exact modify_same es.toList j e0 h2 (by rw [← h3])
  have hidx:es.findIdx? (fun e=>((e.born:Nat):Int)==((e0.born:Nat):Int))=some j:=by
   rw [findIdx_arr]
   exact findIdx_born s2 h2
  refine ⟨e0.born,es,clock,?_,h,fun W hW=>⟨es.modify j (fun e=>{ e with val:=.int .i64 (c a' b'+1) }),clock,?_,?_⟩⟩
  ·have hst:=pairLaw.stays w hl
   simp [Instr.mapEntry,run_underlying Tryz.underlying196,MapKept.run_getObj_map hb,pairLaw.check w false hl,h1,MapKept.run_setObj_map _ hb,Result.andThen,setBlock,hj,h3,hst,e2,hsame]
  ·simp [Instr.entryStore,MapKept.run_getObj_map hW,MapKept.run_setObj_map _ hW,hidx,Result.andThen,setBlock,goInt,asInt,asIntOf]
  ·refine ⟨stamped_modify h.st _ _ (fun _ _=>rfl) (fun _ _ _=>rfl),fun x hx=>?_,fun a1 b1 hn=>?_⟩
   ·rw [Array.toList_modify] at hx
    obtain ⟨i,hi,rfl⟩:=List.getElem_of_mem hx
    rw [List.length_modify] at hi
    rw [List.getElem_modify]
    by_cases hij:j=i
    ·subst hij
     have:es.toList[j]=e0:=by
      have:=List.getElem?_eq_getElem hi
      rw [h2] at this
      exact (Option.some.inj this).symm
     rw [if_pos rfl,this]
     exact ⟨a',b',h3,by unfold incr; rw [if_pos ⟨rfl,rfl⟩],ha,hb'⟩
    ·rw [if_neg hij]
     obtain ⟨x1,y1,f1,f2,f3,f4⟩:=h.keys es.toList[i] (List.getElem_mem hi)
     refine ⟨x1,y1,f1,?_,f3,f4⟩
     unfold incr
     rw [if_neg,f2]
     rintro ⟨rfl,rfl⟩
     have hjl:j<es.toList.length:=by
      rcases Nat.lt_or_ge j es.toList.length with hh | hh
      ·exact hh
      ·rw [List.getElem?_eq_none hh] at h2; cases h2
     have:es.toList[j]=e0:=by
      have:=List.getElem?_eq_getElem hjl
      rw [h2] at this
      exact (Option.some.inj this).symm
     have hk:(es.toList.map (·.key))[j]'(by simpa using hjl)=(es.toList.map (·.key))[i]'(by simpa using hi):=by
      simp only [List.getElem_map,this,f1,h3]
     rcases Nat.lt_or_gt_of_ne hij with hlt | hlt
     ·exact (List.pairwise_iff_getElem.1 s3 j i (by simpa using hjl) (by simpa using hi) hlt) hk
     ·exact (List.pairwise_iff_getElem.1 s3 i j (by simpa using hi) (by simpa using hjl) hlt) hk.symm
   ·unfold incr
    rw [if_neg]
    ·refine h.none a1 b1 fun x hx he=>?_
     have:pk a1 b1∈(es.modify j (fun e=>{ e with val:=.int .i64 (c a' b'+1) })).toList.map (·.key):=by
      rw [modify_keys j (fun e=>{ e with val:=.int .i64 (c a' b'+1) }) (fun _ _=>rfl)]
      exact List.mem_map.2 ⟨x,hx,he⟩
     obtain ⟨y,hy,hye⟩:=List.mem_map.1 this
     exact hn y hy hye
    ·rintro ⟨rfl,rfl⟩
     have:pk a1 b1∈(es.modify j (fun e=>{ e with val:=.int .i64 (c a1 b1+1) })).toList.map (·.key):=by
      rw [modify_keys j (fun e=>{ e with val:=.int .i64 (c a1 b1+1) }) (fun _ _=>rfl)]
      exact List.mem_map.2 ⟨e0,hmem,h3⟩
     obtain ⟨y,hy,hye⟩:=List.mem_map.1 this
     exact hn y hy hye
open Go.RowKit Go.MapKept Go.WideMaps
open Go.ChangeMaps (setBlock)
theorem below_setB (B:Nat) (w:World) (r:Nat) (o:Obj) (h:B≤r):Below B w (setBlock w r o):=by
 refine ⟨rfl,rfl,rfl,?_,fun k hk=>?_⟩
 ·show w.heap.size≤(w.heap.setIfInBounds r o).size
  simp
 ·show (w.heap.setIfInBounds r o)[k]?=w.heap[k]?
  rw [Array.getElem?_setIfInBounds_ne (by omega)]
theorem setB_at (w:World) (r:Nat) (o:Obj) (h:r<w.heap.size):(setBlock w r o).heap[r]?=some o:=by
 show (w.heap.setIfInBounds r o)[r]?=some o
 simp [h]
theorem setB_far (w:World) {r k:Nat} (o:Obj) (h:k≠r):(setBlock w r o).heap[k]?=w.heap[k]?:=by
 show (w.heap.setIfInBounds r o)[k]?=w.heap[k]?
 rw [Array.getElem?_setIfInBounds_ne (fun e=>h e.symm)]
theorem cell_far {w:World} {r L i:Nat} {v:Value} (o:Obj) (h:L≠r) (hc:w.cell? ⟨L,i,none⟩=some v):(setBlock w r o).cell? ⟨L,i,none⟩=some v:=by
 unfold World.cell? at *
 rw [setB_far w o h]
 exact hc
structure But (r:Nat) (w w':World):Prop where
 size:w'.heap.size=w.heap.size
 far:∀ k,k≠r→w'.heap[k]?=w.heap[k]?
 below:∀ B,B≤r→Below B w w'
def MixB (w:World) (r:Nat) (c:ByteArray→ByteArray→Int) (a b:ByteArray) (e:Ending) (w':World):Prop:=e=.returned (.bool (decide (0<c a b)))∧MAt w' r (incr c a b)∧But r w w'
set_option maxRecDepth 20000 in
set_option maxHeartbeats 4000000 in
theorem mixed_any (L r:Nat) (a b:ByteArray) (c:ByteArray→ByteArray→Int) (w:World) (hL:w.cell? ⟨L,11,none⟩=some (.map (some r))) (hLr:L≠r) (hm:MAt w r c) (ha:Sh a) (hb:Sh b) (hc:0≤c a b∧c a b≤100000) :
  Calls Tryz.prog 165 #[.pointer (some ⟨L,0,none⟩),.string a,.string b] w (MixB w r c a b):=by
 obtain ⟨es,clock,h0,hobj⟩:=hm
 have hr:r<w.heap.size:=by
  rcases Nat.lt_or_ge r w.heap.size with hh | hh
  ·exact hh
  ·rw [Array.getElem?_eq_none hh] at h0; cases h0
 have h0d:w.drew.heap[r]?=some (.map es clock):=h0
 obtain ⟨st,es1,clock1,e1,ho1,e2⟩:=run_entry h0d hobj ha hb
 have hW1:(setBlock w.drew r (.map es1 clock1)).heap[r]?=some (.map es1 clock1):=setB_at _ _ _ hr
 obtain ⟨es2,clock2,e3,ho2⟩:=e2 _ hW1
 have hW2:(setBlock (setBlock w.drew r (.map es1 clock1)) r (.map es2 clock2)).heap[r]?=some (.map es2 clock2):=setB_at _ _ _ (by simpa [setBlock] using hr)
 have l0:=run_look h0d hobj ha hb
 have l1:=run_look hW1 ho1 ha hb
 have l2:=run_look hW2 ho2 ha hb
 have cL0:w.drew.cell? ⟨L,11,none⟩=some (.map (some r)):=hL
 have cL1:=cell_far (.map es1 clock1) hLr cL0
 have cL2:=cell_far (.map es2 clock2) hLr cL1
 have hBut:But r w (setBlock (setBlock w.drew r (.map es1 clock1)) r (.map es2 clock2)):=⟨by simp [setBlock],fun k hk=>by rw [setB_far _ _ hk,setB_far _ _ hk]; rfl,fun B hB=>by
  have h1:Below B w w.drew:=⟨rfl,rfl,rfl,Nat.le_refl _,fun _ _=>rfl⟩
  exact (h1.trans (below_setB B w.drew r _ hB)).trans (below_setB B _ r _ hB)⟩
 have HF:MixB w r c a b (.returned (.bool (decide (0<c a b)))) (setBlock (setBlock w.drew r (.map es1 clock1)) r (.map es2 clock2)):=⟨rfl,⟨es2,clock2,hW2,ho2⟩,hBut⟩
 have hinc:incr c a b a b=c a b+1:=by unfold incr; rw [if_pos ⟨rfl,rfl⟩]
 rw [hinc] at l2
 unfold pk goInt at *
 generalize hn:c a b=n at *
 have hw:IntKind.i64.wrap (n+1)=n+1:=IntWalk.i64_in _ ⟨by omega,by omega⟩
 have hgt:decide (1<n+1)=decide (0<n):=decide_eq_decide.2 (by omega)
 clear h0 hobj hr h0d e2 ho1 ho2 hW1 hW2 hBut hinc hn
 generalize hW2:setBlock (setBlock w.drew r (.map es1 clock1)) r (.map es2 clock2)=W2 at *
 generalize hW1:setBlock w.drew r (.map es1 clock1)=W1 at *
 clear hW1 hW2
 go_enter Tryz.func165,Tryz.ntmps165
 go_wp2
 refine wp_region_held_drew (S:=fun w'=>w'.cell? ⟨L,11,none⟩=some (.map (some r))) (by kernel_rfl) (cL0) (fun hHeld=>?_)
 refine tk9 0 (.pointer (some ⟨L,0,none⟩)) ?_
 refine tk9 1 (.pointer (some ⟨L,0,none⟩)) ?_
 refine tk9 2 (.pointer (some ⟨L,11,none⟩)) ?_
 refine tk9 3 (.map (some r)) ?_
 refine tk9 4 (.string a) ?_
 refine tk9 5 (.string b) ?_
 refine tk9 6 (.agg #[.string a,.string b]) ?_
 refine wpAnyH_ready (rs:=[7,9]) (by kernel_rfl) (by simp) ?_
 refine AllReadyH.cons (o:=⟨some 14,_,_,_,_,_⟩) rfl (fun K hK=>?_) (AllReadyH.cons (o:=⟨some 16,_,_,_,_,_⟩) rfl (fun K hK=>?_) AllReadyH.nil)
 ·go_simp
  refine hK.out _ _ ?_ (fun hHeld=>?_)
  ·exact cL0
  clear hK K
  try simp only [Act.put,sa9,sb9,sc9]
  refine tk9 8 (.int .i64 (n+1)) ?_
  refine rd9 9 fun K hK=>?_
  go_simp
  refine hK.out _ _ ?_ (fun hHeld=>?_)
  ·exact cL1
  clear hK K
  try simp only [Act.put,sa9,sb9,sc9]
  refine tk9 10 (.int .i64 (st:Int)) ?_
  refine rd9 11 fun K hK=>?_
  go_simp
  refine hK.out _ _ ?_ (fun hHeld=>?_)
  ·exact cL2
  clear hK K
  try simp only [Act.put,sa9,sb9,sc9]
  refine wpAnyH_done (by kernel_rfl) ?_ _
  go_wp2
  go_ret
  exact HF
 ·go_simp
  refine hK.out _ _ ?_ (fun hHeld=>?_)
  ·exact cL1
  clear hK K
  try simp only [Act.put,sa9,sb9,sc9]
  refine tk9 10 (.int .i64 (st:Int)) ?_
  refine rd9 7 fun K hK=>?_
  go_simp
  refine hK.out _ _ ?_ (fun hHeld=>?_)
  ·exact cL1
  clear hK K
  try simp only [Act.put,sa9,sb9,sc9]
  refine tk9 8 (.int .i64 (n+1)) ?_
  refine rd9 11 fun K hK=>?_
  go_simp
  refine hK.out _ _ ?_ (fun hHeld=>?_)
  ·exact cL2
  clear hK K
  try simp only [Act.put,sa9,sb9,sc9]
  refine wpAnyH_done (by kernel_rfl) ?_ _
  go_wp2
  go_ret
  exact HF
def ncells:List Run→List Value
 | []=>[]
 | x :: l=>.int .i64 x.lo :: .int .i64 x.hi :: .int .i64 x.s :: ncells l
theorem ncells_app:∀ (l:List Run) (x:Run),ncells (l++[x])=ncells l++[.int .i64 x.lo,.int .i64 x.hi,.int .i64 x.s]
 | [],x=>rfl
 | y :: l,x=>by simp [ncells,ncells_app l x]
theorem ncells_at:∀ (l:List Run) (i:Nat),i<l.length→(ncells l)[i * 3]?=some (.int .i64 (l.getD i Run.none).lo)∧(ncells l)[i * 3+1]?=some (.int .i64 (l.getD i Run.none).hi)∧(ncells l)[i * 3+2]?=some (.int .i64 (l.getD i Run.none).s)
 | [],i,h=>by simp at h
 | x :: l,0,_=>by simp [ncells]
 | x :: l,i+1,h=>by
  have:=ncells_at l i (by simpa using h)
  rw [show (i+1) * 3=i * 3+1+1+1 by omega]
  simpa [ncells] using this
def Ln (w:World) (B:Nat) (v:Value) (xs:List Run):Prop:=xs.length≤100000∧w.ownsRow B 208 3 v xs.length (ncells xs)
theorem Ln.rns {w B v} {xs:List Run} (h:Ln w B v xs):Rns w v xs:=by
 obtain ⟨h1,h2,h3⟩:=h
 refine ⟨by omega,?_⟩
 rcases h3 with ⟨rfl,h0⟩ | ⟨g,cap,cur,rfl,_,hg,hn,hc,hs,ht⟩
 ·grind
 ·refine .inr ⟨g,0,cap,rfl,hn,by unfold maxLen at hc; omega,fun i hi=>?_⟩
  have key:∀ j (v:Value),(ncells xs)[j]?=some v→w.cell? ⟨g,j,Option.none⟩=some v:=fun j v hv=>by
   rw [← ht] at hv
   have hjl:j<xs.length * 3:=by grind
   rw [List.getElem?_take_of_lt hjl,Array.getElem?_toList] at hv
   have hj:j<cur.size:=by rw [hs]; omega
   rw [cell_of (j:=j) hg hj]
   simpa [Array.getD,hj,Array.getElem?_eq_getElem hj] using hv
  obtain ⟨a1,a2,a3⟩:=ncells_at xs i hi
  exact ⟨by rw [Nat.zero_add]; exact key _ _ a1,by rw [Nat.zero_add]; exact key _ _ a2,by rw [Nat.zero_add]; exact key _ _ a3⟩
theorem own_lt {w:World} {B e sz n:Nat} {v us} (h:w.ownsRow B e sz v n us) {k} (hk:v.ownBlock=some k):k<w.heap.size∧B≤k:=by
 rcases h.2 with ⟨rfl,_⟩ | ⟨g,cap,cur,rfl,hb,hg,_⟩
 ·cases hk
 ·cases hk
  refine ⟨?_,hb⟩
  rcases Nat.lt_or_ge g w.heap.size with hh | hh
  ·exact hh
  ·grind
theorem alloc_at (w:World) o:(w.alloc o).heap[w.heap.size]?=some o:=by
 show (w.heap.push o)[w.heap.size]?=_
 simp
structure LG (w:World) (B L r:Nat) (vs:Nat→Value) (fs:Nat→List Run) (c:ByteArray→ByteArray→Int):Prop where
 bl:B≤L
 br:B≤r
 lr:L≠r
 blk:∃ cur,w.heap[L]?=some (.cells cur 200 (0,0))∧cur.size=12∧(∀ f,f<11→cur.getD f undef=vs f)∧cur.getD 11 undef=.map (some r)
 map:MAt w r c
 rows:∀ f,f<11→Ln w B (vs f) (fs f)
 far:∀ f,f<11→∀ k,(vs f).ownBlock=some k→k≠L∧k≠r
 apart:∀ f g,f<11→g<11→f≠g→∀ k,(vs f).ownBlock=some k→(vs g).ownBlock≠some k
theorem lt_of_block {w:World} {k o} (h:w.heap[k]?=some o):k<w.heap.size:=by grind
theorem LG.keep {w W B L r} {vs:Nat→Value} {fs:Nat→List Run} {c:ByteArray→ByteArray→Int} (h:LG w B L r vs fs c) (hk:∀ k,k<w.heap.size→W.heap[k]?=w.heap[k]?):LG W B L r vs fs c:=by
 obtain ⟨cur,h1,h2,h3,h4⟩:=h.blk
 obtain ⟨es,clock,h5,h6⟩:=h.map
 exact ⟨h.bl,h.br,h.lr,⟨cur,by rw [hk L (lt_of_block h1)]; exact h1,h2,h3,h4⟩,⟨es,clock,by rw [hk r (lt_of_block h5)]; exact h5,h6⟩,
  fun f hf=>⟨(h.rows f hf).1,own_keep (h.rows f hf).2 fun g hg=>hk g (own_lt (h.rows f hf).2 hg).1⟩,h.far,h.apart⟩
theorem LG.on {w W B L r} {vs:Nat→Value} {fs:Nat→List Run} {c:ByteArray→ByteArray→Int} (h:LG w B L r vs fs c) (hb:Below w.heap.size w W):LG W B L r vs fs c:=h.keep hb.block
theorem LG.cell {w B L r} {vs:Nat→Value} {fs:Nat→List Run} {c:ByteArray→ByteArray→Int} (h:LG w B L r vs fs c) {f} (hf:f<11):w.cell? ⟨L,f,none⟩=some (vs f):=by
 obtain ⟨cur,h1,h2,h3,h4⟩:=h.blk
 rw [cell_of (j:=f) h1 (by omega),h3 f hf]
theorem LG.mcell {w B L r} {vs:Nat→Value} {fs:Nat→List Run} {c:ByteArray→ByteArray→Int} (h:LG w B L r vs fs c):w.cell? ⟨L,11,none⟩=some (.map (some r)):=by
 obtain ⟨cur,h1,h2,h3,h4⟩:=h.blk
 rw [cell_of (j:=11) h1 (by omega),h4]
def upd {α:Type} (g:Nat→α) (f:Nat) (v:α):Nat→α:=fun k=>if k=f then v else g k
theorem upd_same {α:Type} (g:Nat→α) f (v:α):upd g f v f=v:=if_pos rfl
theorem upd_other {α:Type} (g:Nat→α) {f k} (v:α) (h:k≠f):upd g f v k=g k:=if_neg h
theorem LG.mixed {w W B L r} {vs:Nat→Value} {fs:Nat→List Run} {c c':ByteArray→ByteArray→Int} (h:LG w B L r vs fs c) (hm:MAt W r c') (hb:But r w W):LG W B L r vs fs c':=by
 obtain ⟨cur,h1,h2,h3,h4⟩:=h.blk
 exact ⟨h.bl,h.br,h.lr,⟨cur,by rw [hb.far L h.lr]; exact h1,h2,h3,h4⟩,hm,
  fun f hf=>⟨(h.rows f hf).1,own_keep (h.rows f hf).2 fun g hg=>hb.far g (h.far f hf g hg).2⟩,h.far,h.apart⟩
theorem LG.more {w W w8:World} {B L r} {vs:Nat→Value} {fs:Nat→List Run} {c:ByteArray→ByteArray→Int} {f gg cap} {x:Run} (h:LG w B L r vs fs c) (hf:f<11) (hlen:(fs f).length<100000)
  (hW:∀ k,k<w.heap.size→W.heap[k]?=w.heap[k]?) (hsz:w.heap.size≤W.heap.size) (hg:W.grownBy w8 (vs f).ownBlock) (hat:(vs f).ownBlock=some gg∨gg=W.heap.size)
  (hrow:w8.ownsRow B 208 3 (.slice (some ⟨gg,0,none⟩) ((fs f).length+1) cap) ((fs f).length+1) (ncells (fs f)++[.int .i64 x.lo,.int .i64 x.hi,.int .i64 x.s])) :
  LG (w8.setCell ⟨L,f,none⟩ (.slice (some ⟨gg,0,none⟩) ((fs f).length+1) cap)) B L r (upd vs f (.slice (some ⟨gg,0,none⟩) ((fs f).length+1) cap)) (upd fs f (fs f++[x])) c:=by
 obtain ⟨cur,h1,h2,h3,h4⟩:=h.blk
 obtain ⟨es,clock,h5,h6⟩:=h.map
 have hL:=lt_of_block h1
 have hr:=lt_of_block h5
 have hnL:some L≠(vs f).ownBlock:=fun e=>(h.far f hf L e.symm).1 rfl
 have hnr:some r≠(vs f).ownBlock:=fun e=>(h.far f hf r e.symm).2 rfl
 have hggL:gg≠L:=by grind
 have hggr:gg≠r:=by grind
 have k8:∀ k,k<w.heap.size→some k≠(vs f).ownBlock→w8.heap[k]?=w.heap[k]?:=fun k hk hn=>(hg.block k (by omega) hn).trans (hW k hk)
 have hL8:w8.heap[L]?=some (.cells cur 200 (0,0)):=(k8 L hL hnL).trans h1
 have far9:∀ k,k≠L→(w8.setCell ⟨L,f,none⟩ (.slice (some ⟨gg,0,none⟩) ((fs f).length+1) cap)).heap[k]?=w8.heap[k]?:=fun k hk=>set_other _ hk
 refine ⟨h.bl,h.br,h.lr,⟨_,set_block hL8 _,by simpa using h2,fun g hg'=>?_,?_⟩,⟨es,clock,by rw [far9 r (fun e=>h.lr e.symm),k8 r hr hnr]; exact h5,h6⟩,fun g hg'=>?_,fun g hg' k hk=>?_,fun g1 g2 hg1 hg2 hne k hk=>?_⟩
 ·by_cases e:g=f
  ·subst e
   rw [upd_same]
   simp [Array.getD,h2,show g<12 by omega]
  ·rw [upd_other _ _ e,← h3 g hg']
   simp [Array.getD,h2,show g<12 by omega,Array.getElem_setIfInBounds_ne _ (fun e'=>e e'.symm)]
 ·rw [← h4]
  simp [Array.getD,h2,Array.getElem_setIfInBounds_ne _ (show f≠11 by omega)]
 ·by_cases e:g=f
  ·subst e
   rw [upd_same,upd_same]
   refine ⟨by simp; omega,?_⟩
   rw [ncells_app,show (fs g++[x]).length=(fs g).length+1 by simp]
   exact own_keep hrow fun k hk=>by
    have:gg=k:=by simpa [Value.ownBlock] using hk
    subst this
    exact far9 gg hggL
  ·rw [upd_other _ _ e,upd_other _ _ e]
   refine ⟨(h.rows g hg').1,own_keep (h.rows g hg').2 fun k hk=>?_⟩
   rw [far9 k (h.far g hg' k hk).1]
   exact k8 k (own_lt (h.rows g hg').2 hk).1 (fun e'=>h.apart g f hg' hf e k hk e'.symm)
 ·by_cases e:g=f
  ·subst e
   rw [upd_same] at hk
   have:gg=k:=by simpa [Value.ownBlock] using hk
   subst this
   exact ⟨hggL,hggr⟩
  ·rw [upd_other _ _ e] at hk
   exact h.far g hg' k hk
 ·have hgap:∀ g,g<11→g≠f→(vs g).ownBlock≠some gg:=fun g hg' hn e=>by
   rcases hat with e' | e'
   ·exact h.apart g f hg' hf hn gg e e'
   ·have:=(own_lt (h.rows g hg').2 e).1
    omega
  by_cases e1:g1=f
  ·subst e1
   rw [upd_same] at hk
   have:gg=k:=by simpa [Value.ownBlock] using hk
   subst this
   rw [upd_other _ _ (fun e=>hne e.symm)]
   exact hgap g2 hg2 (fun e=>hne e.symm)
  ·rw [upd_other _ _ e1] at hk
   by_cases e2:g2=f
   ·subst e2
    rw [upd_same]
    intro e
    have:gg=k:=by simpa [Value.ownBlock] using e
    subst this
    exact hgap g1 hg1 e1 hk
   ·rw [upd_other _ _ e2]
    exact h.apart g1 g2 hg1 hg2 hne k hk
theorem Rown.far7 {w W B v} {ps:List (Rec × Value)} (h:Rown w B v ps) (hk:∀ k,B≤k→k<w.heap.size→W.heap[k]?=w.heap[k]?):Rown W B v ps :=
 ⟨own_keep h.1 fun g hg=>hk g (own_lt h.1 hg).2 (own_lt h.1 hg).1,fun p hp=>(h.2 p hp).keep fun g hg=>hk g (own_lt (h.2 p hp).2.2 hg).2 (own_lt (h.2 p hp).2.2 hg).1⟩
theorem Rown.on7 {w W B v} {ps:List (Rec × Value)} (h:Rown w B v ps) (hb:Below w.heap.size w W):Rown W B v ps:=h.far7 fun k _ hk=>hb.block k hk
def putR (W:World) (g off:Nat) (q:Rec × Value):World:=(((((((W.setCell ⟨g,off,none⟩ (.int .i64 q.1.kind)).setCell ⟨g,off+1,none⟩ (.int .i64 q.1.lo)).setCell ⟨g,off+2,none⟩ (.int .i64 q.1.hi)).setCell ⟨g,off+3,none⟩ (.int .i64 q.1.n)).setCell ⟨g,off+4,none⟩ q.2).setCell ⟨g,off+5,none⟩ (.string q.1.name)).setCell ⟨g,off+6,none⟩ (.string q.1.other)).setCell ⟨g,off+7,none⟩ (.float .f64 q.1.wt)
def set8 (c:Array Value) (off:Nat) (q:Rec × Value):Array Value:=(((((((c.setIfInBounds off (.int .i64 q.1.kind)).setIfInBounds (off+1) (.int .i64 q.1.lo)).setIfInBounds (off+2) (.int .i64 q.1.hi)).setIfInBounds (off+3) (.int .i64 q.1.n)).setIfInBounds (off+4) q.2).setIfInBounds (off+5) (.string q.1.name)).setIfInBounds (off+6) (.string q.1.other)).setIfInBounds (off+7) (.float .f64 q.1.wt)
theorem set8_size c off (q:Rec × Value):(set8 c off q).size=c.size:=by simp [set8]
theorem set8_at c off (q:Rec × Value) (h:off+8≤c.size) k:(set8 c off q)[k]?=if off≤k∧k<off+8 then (rcell q)[k - off]? else c[k]?:=by
 unfold set8
 by_cases hk:off≤k∧k<off+8
 ·rw [if_pos hk]
  obtain ⟨j,rfl⟩:∃ j,k=off+j:=⟨k - off,by omega⟩
  rw [Nat.add_sub_cancel_left]
  obtain rfl | rfl | rfl | rfl | rfl | rfl | rfl | rfl:j=0∨j=1∨j=2∨j=3∨j=4∨j=5∨j=6∨j=7:=by omega
  all_goals simp [Array.getElem?_setIfInBounds,rcell]; try omega
 ·rw [if_neg hk]
  simp only [Array.getElem?_setIfInBounds]
  rw [if_neg (by omega),if_neg (by omega),if_neg (by omega),if_neg (by omega),if_neg (by omega),if_neg (by omega),if_neg (by omega),if_neg (by omega)]
theorem putR_at {W g off cur e} (h:W.heap[g]?=some (.cells cur e (0,0))) (q:Rec × Value):(putR W g off q).heap[g]?=some (.cells (set8 cur off q) e (0,0)):=by
 have h7:=set_block (j:=off+7) (set_block (j:=off+6) (set_block (j:=off+5) (set_block (j:=off+4) (set_block (j:=off+3) (set_block (j:=off+2) (set_block (j:=off+1) (set_block (j:=off) h (.int .i64 q.1.kind)) (.int .i64 q.1.lo)) (.int .i64 q.1.hi)) (.int .i64 q.1.n)) q.2) (.string q.1.name)) (.string q.1.other)) (.float .f64 q.1.wt)
 unfold putR set8
 exact h7
theorem putR_far {W g off k} (q:Rec × Value) (h:k≠g):(putR W g off q).heap[k]?=W.heap[k]?:=by
 unfold putR
 rw [set_other _ h,set_other _ h,set_other _ h,set_other _ h,set_other _ h,set_other _ h,set_other _ h,set_other _ h]
theorem putR_below {w W B g off} (h:Below B w W) (hg:B≤g) (q:Rec × Value):Below B w (putR W g off q) :=
 below_set (below_set (below_set (below_set (below_set (below_set (below_set (below_set h hg _) hg _) hg _) hg _) hg _) hg _) hg _) hg _
theorem Rown.cells8 {w B g cap i} {ps:List (Rec × Value)} (h:Rown w B (.slice (some ⟨g,0,none⟩) ps.length cap) ps) (hi:i<ps.length) :
  ∃ (r:Rec) (ao:Option Addr) (len cp:Nat),ps[i]=(r,.slice ao len cp)∧w.cell? ⟨g,i * 8,none⟩=some (.int .i64 r.kind)∧w.cell? ⟨g,i * 8+1,none⟩=some (.int .i64 r.lo)∧w.cell? ⟨g,i * 8+2,none⟩=some (.int .i64 r.hi)∧w.cell? ⟨g,i * 8+3,none⟩=some (.int .i64 r.n)∧w.cell? ⟨g,i * 8+4,none⟩=some (.slice ao len cp)∧w.cell? ⟨g,i * 8+5,none⟩=some (.string r.name)∧w.cell? ⟨g,i * 8+6,none⟩=some (.string r.other)∧w.cell? ⟨g,i * 8+7,none⟩=some (.float .f64 r.wt)∧∀ j,w.frozen? ⟨g,j,none⟩=false:=by
 obtain ⟨ao,cp,hv,_,_⟩:=(h.2 ps[i] (List.getElem_mem hi)).sk.shape
 have hc:∀ j u,j<8→(rcell ps[i])[j]?=some u→w.cell? ⟨g,i * 8+j,none⟩=some u:=by
  intro j u hj hu
  have e:=h.1.cells (g:=g) rfl (i * 8+j) u (by rw [rcells_at ps i j hi hj]; simpa [List.getD,hi] using hu)
  rw [addr_add,Nat.zero_add] at e
  exact e
 refine ⟨ps[i].1,ao,_,cp,Prod.ext rfl hv,hc 0 _ (by omega) rfl,hc 1 _ (by omega) rfl,hc 2 _ (by omega) rfl,hc 3 _ (by omega) rfl,hv ▸ hc 4 _ (by omega) rfl,hc 5 _ (by omega) rfl,hc 6 _ (by omega) rfl,hc 7 _ (by omega) rfl,fun j=>?_⟩
 rcases h.1.2 with ⟨e,_⟩ | ⟨g',cap',cur,e,_,hh,_⟩
 ·cases e
 ·simp only [Value.slice.injEq,Option.some.injEq,Addr.mk.injEq,and_true,true_and] at e
  rw [e.1]
  exact frozen_of hh
section
variable {P:Program} {ops:Array Oper} {o:Oper} {a:Act} {w w':World} {K:Act→World→Prop} {Q:Exit→Act→World→Prop} {E:Prop}
theorem step_store7 (hgd:o.guard=none) ty (x y:Operand) (ho:o.op=.store ty x y) pv v (hx:a.eval x=pv) (hy:a.eval y=v) (hrun:(Instr.storeAt ty pv v).run P w=.ok () w') (h:K (a.put o.dst undef) w') :
  if Region.wanted o (yielded ops a.tmps)=true then Oper.wp P o a w K Q else E:=by
 rw [if_pos (by simp [Region.wanted,hgd])]
 unfold Oper.wp execOp
 simp only [ho,hx,hy,Sem.run_bind,hrun,Result.andThen_ok]
 exact h
end
set_option maxRecDepth 8000 in
set_option maxHeartbeats 4000000 in
theorem storeR {W g off cur} (h:W.heap[g]?=some (.cells cur 59 (0,0))) (hs:off+8≤cur.size) r ao len cp :
  (Instr.storeAt 59 (.pointer (some ⟨g,off,none⟩)) (recV r (.slice ao len cp))).run Tryz.prog W=.ok () (putR W g off (r,.slice ao len cp)):=by
 have h1:=set_block (j:=off) h (.int .i64 r.kind)
 have h2:=set_block (j:=off+1) h1 (.int .i64 r.lo)
 have h3:=set_block (j:=off+2) h2 (.int .i64 r.hi)
 have h4:=set_block (j:=off+3) h3 (.int .i64 r.n)
 have h5:=set_block (j:=off+4) h4 (.slice ao len cp)
 have h6:=set_block (j:=off+5) h5 (.string r.name)
 have h7:=set_block (j:=off+6) h6 (.string r.other)
 have c0:=cell_of (j:=off) h (by omega)
 have c1:=cell_of (j:=off+1) h1 (by simp; omega)
 have c2:=cell_of (j:=off+2) h2 (by simp; omega)
 have c3:=cell_of (j:=off+3) h3 (by simp; omega)
 have c4:=cell_of (j:=off+4) h4 (by simp; omega)
 have c5:=cell_of (j:=off+5) h5 (by simp; omega)
 have c6:=cell_of (j:=off+6) h6 (by simp; omega)
 have c7:=cell_of (j:=off+7) h7 (by simp; omega)
 have f0:=frozen_of (j:=off) h
 have f1:=frozen_of (j:=off+1) h1
 have f2:=frozen_of (j:=off+2) h2
 have f3:=frozen_of (j:=off+3) h3
 have f4:=frozen_of (j:=off+4) h4
 have f5:=frozen_of (j:=off+5) h5
 have f6:=frozen_of (j:=off+6) h6
 have f7:=frozen_of (j:=off+7) h7
 have hfl:∀ W a m,(store a (.float .f64 r.wt) m).run Tryz.prog W=stored Tryz.prog W a (.float .f64 r.wt) m:=fun W a m=>run_store Tryz.prog W a _ m rfl
 unfold recV putR
 simp [Instr.storeAt,go_sem,Tryz.sizeOf59,Addr.add,hfl,stored,c0,c1,c2,c3,c4,c5,c6,c7,f0,f1,f2,f3,f4,f5,f6,f7]
end Go.Proofs.YtihhhjodonkkcaaGreatDoor
