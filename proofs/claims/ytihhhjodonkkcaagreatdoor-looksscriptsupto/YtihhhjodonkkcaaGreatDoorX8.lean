/- TbM7 TbO7 TbP7 TbQ7 -/
import Derived.Test.YtihhhjodonkkcaaGreatDoorX7
import Derived.Deep.QuietTactic
import Derived.BigQuiet
namespace Go.Proofs.YtihhhjodonkkcaaGreatDoor
open Go.RowKit
def plB (r:Rec):Bool:=if r.kind=4 then shiftB r else if r.kind=5∨r.kind=7∨r.kind=8∨r.kind=13 then decide (r.lo=r.hi) && Cn.scalar r.lo else if r.kind=15 then decide (r.lo=0∧r.hi=0) else spanB r
def okB (r:Rec):Bool:=plB r && (tarB r.kind r && (numB r.kind r && (namB r.kind r && weiB r.kind r)))
theorem rowK_of {k:Int} {n:Nat} (h:k=n) (hn:n<16):Cn.rowK k=Cn.rowT n:=by
 subst h
 unfold Cn.rowK
 rw [if_neg (by omega),Int.toNat_natCast]
theorem ask_none {r} {q:Row9} (e:Cn.rowK r.kind=q) (h1:q.least=0) (h2:q.most=0):tarB r.kind r=decide (r.to.length=0):=by
 unfold tarB
 rw [e,h1,h2,Bool.eq_iff_iff,Bool.and_eq_true,decide_eq_true_eq,decide_eq_true_eq]
 constructor
 ·rintro ⟨h,_⟩; omega
 ·grind
theorem ask_list {r} {q:Row9} {a b:Nat} (e:Cn.rowK r.kind=q) (h1:q.least=a) (h2:q.most=b):tarB r.kind r=Cn.list r.to a b:=by
 unfold tarB Cn.list
 rw [e,h1,h2]
 congr 1
 rw [decide_eq_decide]
 omega
theorem ask_num0 {r} {q:Row9} (e:Cn.rowK r.kind=q) (h1:q.low=0) (h2:q.high=0):numB r.kind r=decide (r.n=0):=by
 unfold numB
 rw [e,h1,h2,decide_eq_decide]
 omega
theorem ask_num {r} {q:Row9} {a b} (e:Cn.rowK r.kind=q) (h1:q.low=a) (h2:q.high=b):numB r.kind r=decide (a≤r.n∧r.n≤b):=by
 unfold numB
 rw [e,h1,h2]
theorem ask_name0 {r} {q:Row9} (e:Cn.rowK r.kind=q) (h1:q.scr=0):namB r.kind r=(decide (r.name.size=0) && decide (r.other.size=0)):=by
 unfold namB
 rw [e,h1,if_neg (by decide),if_neg (by decide)]
theorem ask_wei0 {r} {q:Row9} (e:Cn.rowK r.kind=q) (h1:q.wei=false):weiB r.kind r=decide (r.wt=0):=by
 unfold weiB
 rw [e,h1,if_neg (by decide)]
theorem span_eq r:decide (0≤r.lo∧r.lo≤r.hi∧r.hi≤1114111)=spanB r:=by
 unfold spanB
 rw [decide_eq_decide]
 omega
theorem shift_eq {r} (hl:Cn.list r.to 1 1=true) (hs:spanB r=true):decide (r.to.getD 0 0+r.hi - r.lo≤1114111∧(r.to.getD 0 0+r.hi - r.lo<55296∨57343<r.to.getD 0 0))=shiftB r:=by
 obtain ⟨h1,h2⟩:(1≤r.to.length∧r.to.length≤1)∧r.to.all Cn.scalar=true:=by
  unfold Cn.list at hl
  rw [Bool.and_eq_true] at hl
  exact ⟨of_decide_eq_true hl.1,hl.2⟩
 obtain ⟨a,ha⟩:∃ a,r.to=[a]:=List.length_eq_one_iff.1 (by omega)
 have hsp:0≤r.lo∧r.lo≤1114111∧0≤r.hi∧r.hi≤1114111∧r.lo≤r.hi:=of_decide_eq_true hs
 have hsc:Cn.scalar a=true:=by grind
 have hsc2:0≤a∧a≤1114111∧¬ (55296≤a∧a≤57343):=of_decide_eq_true hsc
 unfold shiftB
 rw [hs,ha]
 show decide (a+r.hi - r.lo≤1114111∧(a+r.hi - r.lo<55296∨57343<a))=(true && (decide (1=1) && (Cn.scalar a && (Cn.scalar (a+r.hi - r.lo) && (decide (a<55296)==decide (a+r.hi - r.lo<55296))))))
 rw [hsc]
 have hab:a≤a+r.hi - r.lo:=by omega
 simp only [Bool.true_and,decide_true]
 unfold Cn.scalar
 rw [Bool.eq_iff_iff,Bool.and_eq_true,decide_eq_true_eq,decide_eq_true_eq,beq_iff_eq,decide_eq_decide]
 omega
theorem single_eq r b:(spanB r && (decide (r.lo=r.hi) && Cn.scalar r.lo && b))=(decide (r.lo=r.hi) && Cn.scalar r.lo && b):=by
 by_cases h:r.lo=r.hi
 ·cases hs:Cn.scalar r.lo with
  | false=>simp
  | true =>
   have:0≤r.lo∧r.lo≤1114111∧¬ (55296≤r.lo∧r.lo≤57343):=of_decide_eq_true hs
   have hp:spanB r=true:=decide_eq_true (by omega)
   rw [hp]
   simp
 ·rw [decide_eq_false h]
  simp
theorem shift_span r (h:spanB r=false):shiftB r=false:=by
 unfold shiftB
 rw [h]
 rfl
theorem single2 r b:(spanB r && (decide (r.lo=r.hi) && (Cn.scalar r.lo && b)))=(decide (r.lo=r.hi) && (Cn.scalar r.lo && b)):=by
 have:=single_eq r b
 rwa [Bool.and_assoc] at this
theorem right15 {r} (h:r.kind=15):Cn.right r=if okB r=true then 0 else 61:=by
 have e:Cn.rowK r.kind=Cn.rowT 15:=rowK_of h (by decide)
 have hfam:¬ Cn.fam r.kind=0:=by rw [h]; decide
 have e1:=ask_none e rfl rfl
 have e2:=ask_num0 e rfl rfl
 have e3:namB r.kind r=(Cn.nameL r.name && (Cn.nameL r.other && decide (r.name≠r.other))):=by unfold namB; rw [e]; exact (if_neg (by decide)).trans (if_pos rfl)
 have e4:weiB r.kind r=Cn.weight r.wt:=by unfold weiB; rw [e]; exact if_pos rfl
 have e5:plB r=(decide (r.lo=0∧r.hi=0)):=by unfold plB; rw [if_neg (by omega),if_neg (by omega),if_pos h]
 unfold okB
 rw [e1,e2,e3,e4,e5]
 unfold Cn.right
 rw [if_neg hfam]
 rw [if_pos h]
 unfold Cn.bare
 have key:(r.lo=0∧r.hi=0∧(((false || decide (r.n=0)) && (false || decide (r.to.length=0)) && (true || decide (r.name.size=0)) && (true || decide (r.other.size=0)) && (true || decide (r.wt=0)))=true)∧Cn.nameL r.name=true∧Cn.nameL r.other=true∧r.name≠r.other∧Cn.weight r.wt=true)↔(decide (r.lo=0∧r.hi=0) && (decide (r.to.length=0) && (decide (r.n=0) && ((Cn.nameL r.name && (Cn.nameL r.other && decide (r.name≠r.other))) && Cn.weight r.wt))))=true:=by grind
 by_cases hq:(decide (r.lo=0∧r.hi=0) && (decide (r.to.length=0) && (decide (r.n=0) && ((Cn.nameL r.name && (Cn.nameL r.other && decide (r.name≠r.other))) && Cn.weight r.wt))))=true
 ·rw [if_pos hq,if_pos (key.2 hq)]
 ·grind
theorem right_eq r (hf:¬ Cn.fam r.kind=0):Cn.right r=if okB r=true then 0 else 61:=by
 have hk:1≤r.kind∧r.kind≤15:=by
  unfold Cn.fam at hf
  split at hf
  ·exact absurd rfl hf
  ·omega
 obtain h | h | h | h | h | h | h | h | h | h | h | h | h | h | h:r.kind=15∨r.kind=4∨r.kind=1∨r.kind=2∨r.kind=3∨r.kind=5∨r.kind=6∨r.kind=7∨r.kind=8∨r.kind=9∨r.kind=10∨r.kind=11∨r.kind=12∨r.kind=13∨r.kind=14:=by omega
 ·exact right15 h
 all_goals
  have e:=congrArg Cn.rowK h
  first | have e1:=ask_none e rfl rfl | have e1:=ask_list (a:=1) (b:=24) e rfl rfl | have e1:=ask_list (a:=0) (b:=24) e rfl rfl | have e1:=ask_list (a:=1) (b:=1) e rfl rfl | have e1:=ask_list (a:=1) (b:=2) e rfl rfl | have e1:=ask_list (a:=2) (b:=2) e rfl rfl
  first | have e2:=ask_num0 e rfl rfl | have e2:=ask_num (a:=1) (b:=64) e rfl rfl | have e2:=ask_num (a:=1) (b:=254) e rfl rfl | have e2:=ask_num (a:=0) (b:=10) e rfl rfl | have e2:=ask_num (a:=0) (b:=5) e rfl rfl
  first | have e3:=ask_name0 e rfl | have e3:namB r.kind r=(Cn.nameL r.name && decide (r.other.size=0)):=by unfold namB; rw [e]; exact if_pos rfl
  first | have e4:=ask_wei0 e rfl | have e4:weiB r.kind r=Cn.weight r.wt:=by unfold weiB; rw [e]; exact if_pos rfl
  first | have e5:plB r=spanB r:=by unfold plB; rw [if_neg (by omega),if_neg (by omega),if_neg (by omega)] | have e5:plB r=(decide (r.lo=r.hi) && Cn.scalar r.lo):=by unfold plB; rw [if_neg (by omega),if_pos (by omega)] | have e5:plB r=shiftB r:=by unfold plB; rw [if_pos h]
  unfold okB
  rw [e1,e2,e3,e4,e5]
  unfold Cn.right
  rw [if_neg hf]
  simp only [h,Int.reduceEq,or_self,or_true,or_false,reduceIte]
  rw [span_eq]
  unfold Cn.bare
  have key:∀ x y:Bool,x=y→(if x=true then (0:Int) else 61)=if y=true then 0 else 61:=fun x y hxy=>by rw [hxy]
  refine key _ _ ?_
  simp only [Bool.true_or,Bool.false_or,Bool.and_true,Bool.true_and,Bool.and_assoc,single2]
 rotate_left
 all_goals try ac_rfl
 cases hsp:spanB r with
 | false=>rw [shift_span r hsp]; rfl
 | true =>
  cases hl:Cn.list r.to 1 1 with
  | false=>simp
  | true =>
   rw [shift_eq hl hsp]
   simp only [Bool.true_and]
   ac_rfl
set_option maxRecDepth 20000 in
set_option maxHeartbeats 8000000 in
theorem right_core (T fp:Nat) r vt w
  (KSH:∀ W,Calls Tryz.prog 153 #[.int .i64 r.kind] W (fun e w'=>e=.returned (.iface T (.agg #[.int .i64 r.kind]))∧Below W.heap.size W w'))
  (KF:∀ W,Below w.heap.size w W→Calls Tryz.prog 155 #[shV r.kind] W (IntB W (Cn.fam r.kind)))
  (m0 : ∀ W, (method 407 T (.agg #[.int .i64 r.kind]) "endonym/table.family").run Tryz.prog W = .ok (155, .agg #[.int .i64 r.kind]) W)
  (m1 : ∀ W, (method 407 T (.agg #[.int .i64 r.kind]) "endonym/table.placed").run Tryz.prog W = .ok (fp, .agg #[.int .i64 r.kind]) W)
  (m2 : ∀ W, (method 407 T (.agg #[.int .i64 r.kind]) "endonym/table.targeted").run Tryz.prog W = .ok (241, .agg #[.int .i64 r.kind]) W)
  (m3 : ∀ W, (method 407 T (.agg #[.int .i64 r.kind]) "endonym/table.numbered").run Tryz.prog W = .ok (238, .agg #[.int .i64 r.kind]) W)
  (m4 : ∀ W, (method 407 T (.agg #[.int .i64 r.kind]) "endonym/table.named").run Tryz.prog W = .ok (236, .agg #[.int .i64 r.kind]) W)
  (m5 : ∀ W, (method 407 T (.agg #[.int .i64 r.kind]) "endonym/table.weighed").run Tryz.prog W = .ok (242, .agg #[.int .i64 r.kind]) W)
  (eg:∀ args W,(callFunc fp args).run Tryz.prog W=.ok (.enter fp args) W)
  b1 b2 b3 b4 b5
  (K1:∀ W,Below w.heap.size w W→Calls Tryz.prog fp #[shV r.kind,recV r vt] W (BoolB W b1))
  (K2:∀ W,Below w.heap.size w W→Calls Tryz.prog 241 #[shV r.kind,recV r vt] W (BoolB W b2))
  (K3:∀ W,Below w.heap.size w W→Calls Tryz.prog 238 #[shV r.kind,recV r vt] W (BoolB W b3))
  (K4:∀ W,Below w.heap.size w W→Calls Tryz.prog 236 #[shV r.kind,recV r vt] W (BoolB W b4))
  (K5:∀ W,Below w.heap.size w W→Calls Tryz.prog 242 #[shV r.kind,recV r vt] W (BoolB W b5))
  : Calls Tryz.prog 139 #[recV r vt] w (IntB w (if Cn.fam r.kind=0 then 60 else if (b1 && (b2 && (b3 && (b4 && b5))))=true then 0 else 61)):=by
 obtain ⟨Q,hQ⟩:∃ Q,w.alloc (.cells #[.int .i64 r.kind,.int .i64 r.lo,.int .i64 r.hi,.int .i64 r.n,vt,.string r.name,.string r.other,.float .f64 r.wt] 59)=Q:=⟨_,rfl⟩
 have hb0:Below w.heap.size w Q:=hQ ▸ (Below.refl _ _).alloc (Nat.le_refl _) _
 have hsz:Q.heap.size=w.heap.size+1:=by rw [← hQ]; simp
 have hbx:Q.heap[w.heap.size]?=some (.cells #[.int .i64 r.kind,.int .i64 r.lo,.int .i64 r.hi,.int .i64 r.n,vt,.string r.name,.string r.other,.float .f64 r.wt] 59 (0,0)):=by
  rw [← hQ]
  show (w.heap.push _)[w.heap.size]?=_
  simp
 have HC:=Hd fun W (hW:Below Q.heap.size Q W)=>And.intro (bthen hb0 hW) (cells8 ((hW.block _ (by omega)).trans hbx))
 obtain ⟨V,hV⟩:∃ V:Int,(if Cn.fam r.kind=0 then 60 else if (b1 && (b2 && (b3 && (b4 && b5))))=true then 0 else 61)=V:=⟨_,rfl⟩
 rw [hV]
 have HV:=Hd hV
 have HF:Hid (∀ z W,V=z→Below Q.heap.size Q W→IntB w V (.returned (.int .i64 z)) W):=fun z W e hW=>⟨by rw [e],bthen hb0 hW⟩
 have hA:=Below.refl Q.heap.size Q
 replace KSH:=Hd KSH
 replace KF:=Hd KF
 replace K1:=Hd K1
 replace K2:=Hd K2
 replace K3:=Hd K3
 replace K4:=Hd K4
 replace K5:=Hd K5
 clear hV hb0 hsz hbx
 unfold recV shV at *
 generalize Cn.fam r.kind=fr at *
 generalize r.kind=kd at *
 generalize r.n=n at *
 generalize r.lo=lo at *
 generalize r.hi=hi at *
 generalize r.name=nm at *
 generalize r.other=ot at *
 generalize r.wt=wt at *
 subst hQ
 go_enter Tryz.func139,Tryz.ntmps139
 go_wp2_with fail
 refine (Uh KSH _).mono ?_
 rintro e wr ⟨rfl,b⟩
 replace hA:=bthen hA b
 clear b KSH
 obtain ⟨hB,x0,x1,x2,x3,x4,x5,x6,x7⟩:=Uh HC _ hA
 go_wp2_with fail
 refine (Uh KF _ hB).mono ?_
 rintro e wr ⟨rfl,b⟩
 replace hA:=bthen hA b
 clear b KF hB x0 x1 x2 x3 x4 x5 x6 x7
 obtain ⟨hB,x0,x1,x2,x3,x4,x5,x6,x7⟩:=Uh HC _ hA
 by_cases h0:fr=0
 ·subst h0
  have H:=Uh HF 60 _ ((Uh HV).symm.trans (if_pos rfl)) hA
  clear HV HF HC hA hB
  go_wp2
  go_ret
  exact H
 have q0:(fr==0)=false:=beq_eq_false_iff_ne.2 h0
 replace HV:=Hd ((Uh HV).symm.trans (if_neg h0)).symm
 go_wp2_with fail
 refine (Uh K1 _ hB).mono ?_
 rintro e wr ⟨rfl,b⟩
 replace hA:=bthen hA b
 clear b K1 hB x0 x1 x2 x3 x4 x5 x6 x7
 obtain ⟨hB,x0,x1,x2,x3,x4,x5,x6,x7⟩:=Uh HC _ hA
 cases b1
 ·have H:=Uh HF 61 _ ((Uh HV).symm.trans (by simp)) hA
  clear HV HF HC hA hB
  go_wp2
  go_ret
  exact H
 go_wp2_with fail
 refine (Uh K2 _ hB).mono ?_
 rintro e wr ⟨rfl,b⟩
 replace hA:=bthen hA b
 clear b K2 hB x0 x1 x2 x3 x4 x5 x6 x7
 obtain ⟨hB,x0,x1,x2,x3,x4,x5,x6,x7⟩:=Uh HC _ hA
 cases b2
 ·have H:=Uh HF 61 _ ((Uh HV).symm.trans (by simp)) hA
  clear HV HF HC hA hB
  go_wp2
  go_ret
  exact H
 go_wp2_with fail
 refine (Uh K3 _ hB).mono ?_
 rintro e wr ⟨rfl,b⟩
 replace hA:=bthen hA b
 clear b K3 hB x0 x1 x2 x3 x4 x5 x6 x7
 obtain ⟨hB,x0,x1,x2,x3,x4,x5,x6,x7⟩:=Uh HC _ hA
 cases b3
 ·have H:=Uh HF 61 _ ((Uh HV).symm.trans (by simp)) hA
  clear HV HF HC hA hB
  go_wp2
  go_ret
  exact H
 go_wp2_with fail
 refine (Uh K4 _ hB).mono ?_
 rintro e wr ⟨rfl,b⟩
 replace hA:=bthen hA b
 clear b K4 hB x0 x1 x2 x3 x4 x5 x6 x7
 obtain ⟨hB,x0,x1,x2,x3,x4,x5,x6,x7⟩:=Uh HC _ hA
 cases b4
 ·have H:=Uh HF 61 _ ((Uh HV).symm.trans (by simp)) hA
  clear HV HF HC hA hB
  go_wp2
  go_ret
  exact H
 go_wp2_with fail
 refine (Uh K5 _ hB).mono ?_
 rintro e wr ⟨rfl,b⟩
 replace hA:=bthen hA b
 clear b K5 hB x0 x1 x2 x3 x4 x5 x6 x7
 obtain ⟨hB,x0,x1,x2,x3,x4,x5,x6,x7⟩:=Uh HC _ hA
 cases b5
 ·have H:=Uh HF 61 _ ((Uh HV).symm.trans (by simp)) hA
  clear HV HF HC hA hB
  go_wp2
  go_ret
  exact H
 have H:=Uh HF 0 _ ((Uh HV).symm.trans (by simp)) hA
 clear HV HF HC hA hB
 go_wp2
 go_ret
 exact H
theorem enters_pl4:∀ args w,(callFunc 255 args).run Tryz.prog w=.ok (.enter 255 args) w:=by simp_all
theorem enters_pl5:∀ args w,(callFunc 259 args).run Tryz.prog w=.ok (.enter 259 args) w:=by simp_all
theorem enters_pl15:∀ args w,(callFunc 262 args).run Tryz.prog w=.ok (.enter 262 args) w:=by simp_all
theorem enters_pl1:∀ args w,(callFunc 254 args).run Tryz.prog w=.ok (.enter 254 args) w:=by simp_all
def RightT:Prop:=∀ (r:Rec) (vt:Value) (w:World),Glob w→RecFit r→Sk .i32 w vt r.to→Calls Tryz.prog 139 #[recV r vt] w (IntB w (Cn.right r))
theorem right_any:RightT:=by
 intro r vt w hg hf hs
 have e:Cn.right r=if Cn.fam r.kind=0 then 60 else if (plB r && (tarB r.kind r && (numB r.kind r && (namB r.kind r && weiB r.kind r))))=true then 0 else 61:=by
  by_cases h0:Cn.fam r.kind=0
  ·rw [if_pos h0]
   unfold Cn.right
   rw [if_pos h0]
  ·rw [if_neg h0,right_eq r h0]
   rfl
 rw [e]
 have KF:∀ W,Below w.heap.size w W→Calls Tryz.prog 155 #[shV r.kind] W (IntB W (Cn.fam r.kind)):=fun W h=>sharedFam_any r.kind W (hg.on h) hf.kind
 have K2:∀ W,Below w.heap.size w W→Calls Tryz.prog 241 #[shV r.kind,recV r vt] W (BoolB W (tarB r.kind r)):=fun W h=>targeted_any r.kind r vt W (hg.on h) hf.kind (hs.below h)
 have K3:∀ W,Below w.heap.size w W→Calls Tryz.prog 238 #[shV r.kind,recV r vt] W (BoolB W (numB r.kind r)):=fun W h=>numbered_any r.kind r vt W (hg.on h) hf.kind hf.n
 have K4:∀ W,Below w.heap.size w W→Calls Tryz.prog 236 #[shV r.kind,recV r vt] W (BoolB W (namB r.kind r)):=fun W h=>named_any r.kind r vt W (hg.on h) hf.kind
 have K5:∀ W,Below w.heap.size w W→Calls Tryz.prog 242 #[shV r.kind,recV r vt] W (BoolB W (weiB r.kind r)):=fun W h=>weighed_any r.kind r vt W (hg.on h) hf.kind hf.wt
 by_cases h4:r.kind=4
 ·have ep:plB r=shiftB r:=by unfold plB; rw [if_pos h4]
  have es:shape r.kind=.iface 246 (.agg #[.int .i64 r.kind]):=by unfold shape shV; rw [if_pos h4]
  rw [ep]
  exact right_core 246 255 r vt w (fun W=>es ▸ shapeOf_any r.kind W hf.kind) KF (mFamilyShifted _) (mPlacedShifted _) (mTargetedShifted _) (mNumberedShifted _) (mNamedShifted _) (mWeighedShifted _) enters_pl4 _ _ _ _ _ (fun W h=>placedShifted_any r.kind r vt W hf (hs.below h)) K2 K3 K4 K5
 ·by_cases h5:r.kind=5∨r.kind=7∨r.kind=8∨r.kind=13
  ·have ep:plB r=(decide (r.lo=r.hi) && Cn.scalar r.lo):=by unfold plB; rw [if_neg h4,if_pos h5]
   have es:shape r.kind=.iface 247 (.agg #[.int .i64 r.kind]):=by unfold shape shV; rw [if_neg h4,if_pos h5]
   rw [ep]
   exact right_core 247 259 r vt w (fun W=>es ▸ shapeOf_any r.kind W hf.kind) KF (mFamilySingle _) (mPlacedSingle _) (mTargetedSingle _) (mNumberedSingle _) (mNamedSingle _) (mWeighedSingle _) enters_pl5 _ _ _ _ _ (fun W _=>placedSingle_any r.kind r vt W hf) K2 K3 K4 K5
  ·by_cases h15:r.kind=15
   ·have ep:plB r=decide (r.lo=0∧r.hi=0):=by unfold plB; rw [if_neg h4,if_neg h5,if_pos h15]
    have es:shape r.kind=.iface 248 (.agg #[.int .i64 r.kind]):=by unfold shape shV; rw [if_neg h4,if_neg h5,if_pos h15]
    rw [ep]
    exact right_core 248 262 r vt w (fun W=>es ▸ shapeOf_any r.kind W hf.kind) KF (mFamilyPaired _) (mPlacedPaired _) (mTargetedPaired _) (mNumberedPaired _) (mNamedPaired _) (mWeighedPaired _) enters_pl15 _ _ _ _ _ (fun W _=>placedPaired_any r.kind r vt W hf) K2 K3 K4 K5
   ·have ep:plB r=spanB r:=by unfold plB; rw [if_neg h4,if_neg h5,if_neg h15]
    have es:shape r.kind=.iface 244 (.agg #[.int .i64 r.kind]):=by unfold shape shV; rw [if_neg h4,if_neg h5,if_neg h15]
    rw [ep]
    exact right_core 244 254 r vt w (fun W=>es ▸ shapeOf_any r.kind W hf.kind) KF (mFamilySpanned _) (mPlacedSpanned _) (mTargetedSpanned _) (mNumberedSpanned _) (mNamedSpanned _) (mWeighedSpanned _) enters_pl1 _ _ _ _ _ (fun W _=>placedSpanned_any r.kind r vt W hf) K2 K3 K4 K5
def firstW (rs:List Rec):Nat × Int:=if 4096<rs.length then (0,3) else match Cn.rightA 0 rs with | some x=>x | Option.none=>(0,0)
def tailF (rs:List Rec) (k:Nat):Nat × Int:=match Cn.rightA k (rs.drop k) with | some x=>x | Option.none=>(0,0)
theorem tf_hit {rs k} (hk:k<rs.length) (h:Cn.right (rs.getD k Cn.none)≠0):tailF rs k=(k,Cn.right (rs.getD k Cn.none)):=by
 have e:rs.getD k Cn.none=rs[k]:=by grind
 rw [e] at h ⊢
 unfold tailF
 rw [List.drop_eq_getElem_cons hk,Cn.rightA,if_neg h]
theorem tf_next {rs k} (hk:k<rs.length) (h:Cn.right (rs.getD k Cn.none)=0):tailF rs k=tailF rs (k+1):=by
 have e:rs.getD k Cn.none=rs[k]:=by grind
 rw [e] at h
 unfold tailF
 rw [List.drop_eq_getElem_cons hk,Cn.rightA,if_pos h]
theorem tf_end rs:tailF rs rs.length=(0,0):=by
 unfold tailF
 rw [List.drop_length,Cn.rightA]
def PairIB (w:World) (x:Nat × Int) (e:Ending) (w':World):Prop:=e=.returned (.tuple #[.int .i64 (x.1:Int),.int .i64 x.2])∧Below w.heap.size w w'
set_option maxRecDepth 8000 in
set_option maxHeartbeats 4000000 in
theorem firstWrong_any v rs w (hg:Glob w) (hv:Rcs w v rs):Calls Tryz.prog 112 #[v] w (PairIB w (firstW rs)):=by
 have hlen:=hv.1
 by_cases hbig:4096<rs.length
 ·have e:firstW rs=(0,3):=by unfold firstW; rw [if_pos hbig]
  rw [e]
  obtain ⟨ao,cap,rfl,_,_⟩:=hv.shape
  go_enter Tryz.func112,Tryz.ntmps112
  go_wp2
  go_ret2
  exact ⟨rfl,Below.refl _ _⟩
 ·have HRES:Hid (firstW rs=tailF rs 0):=by
   show firstW rs=tailF rs 0
   unfold firstW tailF
   rw [if_neg hbig,List.drop_zero]
  have HI0:Hid (RIn w v rs w):=⟨hv,Below.refl _ _⟩
  have HG:=Hd (fun W (h:Below w.heap.size w W)=>hg.on h)
  obtain ⟨ao,cap,rfl,h1,h2⟩:=hv.shape
  generalize firstW rs=res at *
  go_enter Tryz.func112,Tryz.ntmps112
  go_wp2
  go_loopw [4,5,6,12] (fun _ _ _ i wr=>∃ k:Nat,i=.int .i64 k∧k≤rs.length∧res=tailF rs k∧RIn w (.slice ao rs.length cap) rs wr) (fun _ _ _ i _=>rs.length - (intOf i).toNat)
  case atStart=>exact ⟨0,rfl,by omega,Uh HRES,Uh HI0⟩
  case round =>
   obtain ⟨k,rfl,hk,hres,hin⟩:=hrel
   by_cases hlt:k<rs.length
   ·obtain ⟨b,off,cap',he,hc1,hc2,hc⟩:=hin.1.place (by omega)
    obtain ⟨rfl,rfl⟩:ao=some ⟨b,off,none⟩∧cap=cap':=by simpa using he
    have hfit:=hin.1.fit hlt
    obtain ⟨x0,x1,x2,x3,⟨vt,x4,sk⟩,x5,x6,x7⟩:=hc k hlt
    have HN:Hid (Cn.right (rs.getD k Cn.none)=0→res=tailF rs (k+1)):=fun h=>hres.trans (tf_next hlt h)
    have HH:Hid (Cn.right (rs.getD k Cn.none)≠0→res=(k,Cn.right (rs.getD k Cn.none))):=fun h=>hres.trans (tf_hit hlt h)
    have KR:Hid (∀ W,Below wr.heap.size wr W→Calls Tryz.prog 139 #[recV (rs.getD k Cn.none) vt] W (IntB W (Cn.right (rs.getD k Cn.none)))):=fun W h=>right_any _ vt W ((Uh HG) W (hin.on h).2) hfit (sk.below h)
    have HIN:=Hd hin
    obtain ⟨tq,tc,rfl,_,_⟩:=sk.shape
    unfold recV at KR
    generalize Cn.right (rs.getD k Cn.none)=y at KR HH HN
    generalize (rs.getD k Cn.none).kind=kd at *
    generalize (rs.getD k Cn.none).lo=lo at *
    generalize (rs.getD k Cn.none).hi=hi at *
    generalize (rs.getD k Cn.none).n=n at *
    generalize (rs.getD k Cn.none).name=nm at *
    generalize (rs.getD k Cn.none).other=ot at *
    generalize (rs.getD k Cn.none).wt=wt at *
    generalize (rs.getD k Cn.none).to.length=tl at *
    have hfl:∀ W a m,(store a (.float .f64 wt) m).run Tryz.prog W=stored Tryz.prog W a (.float .f64 wt) m:=fun W a m=>run_store Tryz.prog W a _ m rfl
    go_wp2_with fail
    refine ((Uh KR) _ ((Below.refl _ _).alloc (Nat.le_refl _) _)).mono ?_
    rintro e w1 ⟨rfl,hb1⟩
    have hb2:=bthen ((Below.refl wr.heap.size wr).alloc (Nat.le_refl _) _) hb1
    by_cases hy:y=0
    ·have HN2:=Hd ((Uh HN) hy)
     subst hy
     have HI:=Hd ((Uh HIN).on hb2)
     go_wp2
     go_round
     case rel=>exact ⟨k+1,by go_num,by omega,Uh HN2,Uh HI⟩
     case measure=>simp [intOf]; omega
    ·obtain rfl:=(Uh HH) hy
     have hyb:(y==0)=false:=beq_eq_false_iff_ne.2 hy
     have hyn:(y != 0)=true:=by simp [hy]
     have HI:=Hd ((Uh HIN).on hb2).2
     go_wp2
     go_ret2
     exact ⟨rfl,Uh HI⟩
   ·obtain rfl:k=rs.length:=by omega
    obtain rfl:=hres.trans (tf_end rs)
    have HF:=Hd hin.2
    go_wp2
    go_ret2
    exact ⟨rfl,Uh HF⟩
structure RunOk (lo hi s:Int):Prop where
 l0:0≤lo
 lh:lo≤hi
 h1:hi≤1114111
 s0:1≤s
 s1:s≤64
def fromI (lo s c:Int):Int:=if c≤lo then lo else c+(s - (c - lo) % s) % s
set_option maxRecDepth 8000 in
set_option maxHeartbeats 4000000 in
theorem from_any lo hi s c w (h:RunOk lo hi s) (hc:0≤c∧c≤1114111):Calls Tryz.prog 189 #[runV lo hi s,.int .i64 c] w (IntB w (fromI lo s c)):=by
 have hb:Below w.heap.size w (w.alloc (.cells #[.int .i64 lo,.int .i64 hi,.int .i64 s] 208)):=(Below.refl _ _).alloc (Nat.le_refl _) _
 obtain ⟨l0,lh,h1,s0,s1⟩:=h
 obtain ⟨c0,c1⟩:=hc
 unfold runV fromI
 by_cases hle:c≤lo
 ·rw [if_pos hle]
  have d:=decide_eq_true hle
  go_enter Tryz.func189,Tryz.ntmps189
  go_wp2
  go_ret
  exact ⟨rfl,hb⟩
 ·rw [if_neg hle]
  have d:=decide_eq_false hle
  have m0:=Int.emod_nonneg (c - lo) (show s≠0 by omega)
  have m1:=Int.emod_lt_of_pos (c - lo) (show 0<s by omega)
  have n0:=Int.emod_nonneg (s - (c - lo) % s) (show s≠0 by omega)
  have n1:=Int.emod_lt_of_pos (s - (c - lo) % s) (show 0<s by omega)
  have e1:(c - lo).tmod s=(c - lo) % s:=Int.tmod_eq_emod_of_nonneg (by omega)
  have e2:(s - (c - lo) % s).tmod s=(s - (c - lo) % s) % s:=Int.tmod_eq_emod_of_nonneg (by omega)
  have w1:IntKind.i64.wrap (c - lo)=c - lo:=IntWalk.i64_in _ ⟨by omega,by omega⟩
  have w2:IntKind.i64.wrap (s - (c - lo) % s)=s - (c - lo) % s:=IntWalk.i64_in _ ⟨by omega,by omega⟩
  have w3:IntKind.i64.wrap ((c - lo) % s)=(c - lo) % s:=IntWalk.i64_in _ ⟨by omega,by omega⟩
  have w4:IntKind.i64.wrap ((s - (c - lo) % s) % s)=(s - (c - lo) % s) % s:=IntWalk.i64_in _ ⟨by omega,by omega⟩
  have w5:IntKind.i64.wrap (c+(s - (c - lo) % s) % s)=c+(s - (c - lo) % s) % s:=IntWalk.i64_in _ ⟨by omega,by omega⟩
  have q0:(s==0)=false:=beq_eq_false_iff_ne.2 (by omega)
  go_enter Tryz.func189,Tryz.ntmps189
  go_wp2
  go_quiet (fail)
  go_wp2
  go_ret
  have e3:(s - (c - lo) % s) % s=-((c - lo) % s) % s:=by simp_all
  refine ⟨?_,bthen hb (drewB ⟨_,rfl⟩)⟩
  show Ending.returned (.int .i64 (wrap64 (c+-((c - lo) % s) % s)))=_
  rw [← e3,IntWalk.wrap64_in _ ⟨by omega,by omega⟩]
def mA (s hi:Int) (p:Int→Bool):Nat→Int→Bool
 | 0,_=>false
 | k+1,c=>if hi<c then false else if p c then true else mA s hi p k (c+s)
def meetsB (lo hi s lo' hi' s':Int):Bool :=
 if hi<lo'∨hi'<lo then false
 else if s<s' then mA s' hi' (hasB lo hi s) s.toNat (fromI lo' s' lo)
 else mA s hi (hasB lo' hi' s') s'.toNat (fromI lo s lo')
set_option maxRecDepth 8000 in
set_option maxHeartbeats 8000000 in
theorem meets_core ol oh os il ih is w A (h:RunOk ol oh os) (h':RunOk il ih is) (q1:¬ ih<ol) (q2:¬ oh<il) (hA:(A=#[runV il ih is,runV ol oh os]∧is<os)∨(A=#[runV ol oh os,runV il ih is]∧¬ os<is)):Calls Tryz.prog 167 A w (BoolB w (mA os oh (hasB il ih is) is.toNat (fromI ol os il))):=by
 have d:=decide_eq_false q1
 have d2:=decide_eq_false q2
 have hbb:=below2 w (.cells #[.int .i64 ol,.int .i64 oh,.int .i64 os] 208) (.cells #[.int .i64 il,.int .i64 ih,.int .i64 is] 208)
 have KFR:=Hd (from_any ol oh os il ((w.alloc (.cells #[.int .i64 ol,.int .i64 oh,.int .i64 os] 208)).alloc (.cells #[.int .i64 il,.int .i64 ih,.int .i64 is] 208)) h ⟨h'.l0,by have:=h'.lh; have:=h'.h1; omega⟩)
 have KH:Hid (∀ c W,-10≤c∧c≤2000000→Calls Tryz.prog 154 #[.agg #[.int .i64 il,.int .i64 ih,.int .i64 is],.int .i64 c] W (BoolB W (hasB il ih is c))):=fun c W hc=>has_any il ih is c W ⟨by have:=h'.l0; omega,by have:=h'.lh; have:=h'.h1; omega⟩ ⟨by have:=h'.l0; have:=h'.lh; omega,by have:=h'.h1; omega⟩ ⟨by have:=h'.s0; omega,by have:=h'.s1; omega⟩ ⟨by omega,by omega⟩
 have HX:Hid (∀ W,Below ((w.alloc (.cells #[.int .i64 ol,.int .i64 oh,.int .i64 os] 208)).alloc (.cells #[.int .i64 il,.int .i64 ih,.int .i64 is] 208)).heap.size ((w.alloc (.cells #[.int .i64 ol,.int .i64 oh,.int .i64 os] 208)).alloc (.cells #[.int .i64 il,.int .i64 ih,.int .i64 is] 208)) W→W.cell? ⟨w.heap.size,1,none⟩=some (.int .i64 oh)∧W.cell? ⟨w.heap.size,2,none⟩=some (.int .i64 os)):=fun W h'=>by
  have h0:((w.alloc (.cells #[.int .i64 ol,.int .i64 oh,.int .i64 os] 208)).alloc (.cells #[.int .i64 il,.int .i64 ih,.int .i64 is] 208)).heap[w.heap.size]?=some (.cells #[.int .i64 ol,.int .i64 oh,.int .i64 os] 208 (0,0)):=by
   show ((w.heap.push _).push _)[w.heap.size]?=_
   rw [Array.getElem?_push_lt (by simp)]
   simp
  have h2:W.heap[w.heap.size]?=_:=(h'.block _ (by simp; omega)).trans h0
  exact ⟨cell_of (j:=1) h2 (by simp),cell_of (j:=2) h2 (by simp)⟩
 have HY:Hid (∀ W,Below ((w.alloc (.cells #[.int .i64 ol,.int .i64 oh,.int .i64 os] 208)).alloc (.cells #[.int .i64 il,.int .i64 ih,.int .i64 is] 208)).heap.size ((w.alloc (.cells #[.int .i64 ol,.int .i64 oh,.int .i64 os] 208)).alloc (.cells #[.int .i64 il,.int .i64 ih,.int .i64 is] 208)) W→W.cell? ⟨w.heap.size+1,0,none⟩=some (.int .i64 il)∧W.cell? ⟨w.heap.size+1,1,none⟩=some (.int .i64 ih)∧W.cell? ⟨w.heap.size+1,2,none⟩=some (.int .i64 is)):=fun W h'=>⟨box_cell (j:=0) h' rfl,box_cell (j:=1) h' rfl,box_cell (j:=2) h' rfl⟩
 obtain ⟨N,hN⟩:∃ N:Nat,is=(N:Int):=⟨is.toNat,by have:=h'.s0; omega⟩
 have hN1:N≤64:=by have:=h'.s1; omega
 have ht:is.toNat=N:=by omega
 have hfb:0≤fromI ol os il∧fromI ol os il≤1114300:=by
  obtain ⟨a0,a1,a2,a3,a4⟩:=h
  obtain ⟨b0,b1,b2,b3,b4⟩:=h'
  unfold fromI
  split
  ·omega
  ·have:=Int.emod_nonneg (os - (il - ol) % os) (show os≠0 by omega)
   have:=Int.emod_lt_of_pos (os - (il - ol) % os) (show 0<os by omega)
   omega
 have hxb:0≤oh∧oh≤1114111:=⟨by have:=h.l0; have:=h.lh; omega,h.h1⟩
 have hsb:1≤os∧os≤64:=⟨h.s0,h.s1⟩
 rw [ht]
 have HN:=Hd hN
 clear h h' ht hN
 generalize hfm:fromI ol os il=c0 at *
 clear hfm
 generalize hhas:hasB il ih is=p at *
 clear hhas
 generalize hr0:mA os oh p N c0=res at *
 have HR0:=Hd hr0.symm
 clear hr0
 rcases hA with ⟨rfl,hs⟩ | ⟨rfl,hs⟩
 all_goals
  first
  | have d3:=decide_eq_true hs
  | have d3:=decide_eq_false hs
  unfold runV at *
  go_enter Tryz.func167,Tryz.ntmps167
  go_wp2_with fail
  refine (Uh KFR).mono ?_
  rintro e w1 ⟨rfl,hb1⟩
  have y2:=((Uh HY) w1 hb1).2.2
  rw [Uh HN] at y2
  have hbb:=bthen hbb hb1
  have HX:=Hd (fun W (h':Below w1.heap.size w1 W)=>(Uh HX) W (bthen hb1 h'))
  have HY:=Hd (fun W (h':Below w1.heap.size w1 W)=>(Uh HY) W (bthen hb1 h'))
  clear KFR hb1 HN
  go_wp2
  go_loopw [5,31] (fun cv iv wr=>∃ (k:Nat) (c:Int),cv=.int .i64 c∧iv=.int .i64 k∧k≤N∧0≤c∧c≤1114300∧res=mA os oh p (N - k) c∧Below w1.heap.size w1 wr) (fun _ iv _=>N - (intOf iv).toNat)
  case atStart=>exact ⟨0,c0,rfl,rfl,by omega,hfb.1,hfb.2,Uh HR0,Below.refl _ _⟩
  case round =>
   obtain ⟨k,c,rfl,rfl,hk,hc0,hc1,hres,hB⟩:=hrel
   clear HR0 y2
   by_cases hlt:k<N
   ·obtain ⟨M,hM⟩:∃ M,N - k=M+1:=⟨N - k - 1,by omega⟩
    rw [hM,mA] at hres
    obtain ⟨x1,x2⟩:=(Uh HX) wr hB
    obtain ⟨z0,z1,z2⟩:=(Uh HY) wr hB
    by_cases hgt:oh<c
    ·rw [if_pos hgt] at hres
     subst hres
     have dg:=decide_eq_true hgt
     have HF:BoolB w false (.returned (.bool false)) wr:=⟨rfl,bthen hbb hB⟩
     clear KH HX HY hB hM
     go_wp2
     go_ret
     exact HF
    ·rw [if_neg hgt] at hres
     have dg:=decide_eq_false hgt
     have KC:=Hd ((Uh KH) c wr ⟨by omega,by omega⟩)
     have HBB:=Hd hB
     clear KH hB
     cases hp:p c with
     | true =>
      rw [hp,if_pos rfl] at hres
      subst hres
      rw [hp] at KC
      clear hM HX HY
      go_wp2_with fail
      refine (Uh KC).mono ?_
      rintro e w2 ⟨rfl,hb2⟩
      have HF:BoolB w true (.returned (.bool true)) w2:=⟨rfl,bthen (bthen hbb (Uh HBB)) hb2⟩
      clear KC hb2 HBB x1 x2 z0 z1 z2
      go_wp2
      go_ret
      exact HF
     | false =>
      rw [hp,if_neg (by decide)] at hres
      rw [hp] at KC
      have HRES:Hid (res=mA os oh p (N - (k+1)) (c+os)):=by rw [show N - (k+1)=M by omega]; exact hres
      have HX2:Hid (∀ W,Below wr.heap.size wr W→W.cell? ⟨w.heap.size,2,none⟩=some (.int .i64 os)):=fun W h'=>((Uh HX) W (bthen (Uh HBB) h')).2
      clear hM HX HY hres
      go_wp2_with fail
      refine (Uh KC).mono ?_
      rintro e w2 ⟨rfl,hb2⟩
      have y:=(Uh HX2) w2 hb2
      have HB2:=Hd (bthen (Uh HBB) hb2)
      have hw:IntKind.i64.wrap (c+os)=c+os:=IntWalk.i64_in _ ⟨by omega,by omega⟩
      clear KC hb2 HBB HX2 x1 x2 z0 z1 z2
      go_wp2
      go_round
      case rel=>exact ⟨k+1,c+os,by go_num,by go_num,by omega,by omega,by omega,Uh HRES,Uh HB2⟩
      case measure=>simp [intOf]; omega
   ·have e0:N - k=0:=by omega
    rw [e0,mA] at hres
    subst hres
    have HF:BoolB w false (.returned (.bool false)) wr:=⟨rfl,bthen hbb hB⟩
    clear KH HX HY hB
    go_wp2
    go_ret
    exact HF
set_option maxRecDepth 8000 in
set_option maxHeartbeats 4000000 in
theorem meets_any lo hi s lo' hi' s' w (h:RunOk lo hi s) (h':RunOk lo' hi' s'):Calls Tryz.prog 167 #[runV lo hi s,runV lo' hi' s'] w (BoolB w (meetsB lo hi s lo' hi' s')):=by
 have hb0:=below2 w (.cells #[.int .i64 lo,.int .i64 hi,.int .i64 s] 208) (.cells #[.int .i64 lo',.int .i64 hi',.int .i64 s'] 208)
 unfold meetsB
 by_cases ha:hi<lo'
 ·rw [if_pos (.inl ha)]
  have d:=decide_eq_true ha
  unfold runV
  go_enter Tryz.func167,Tryz.ntmps167
  go_wp2
  go_ret
  exact ⟨rfl,hb0⟩
 ·have d:=decide_eq_false ha
  by_cases hc:hi'<lo
  ·rw [if_pos (.inr hc)]
   have d2:=decide_eq_true hc
   unfold runV
   go_enter Tryz.func167,Tryz.ntmps167
   go_wp2
   go_ret
   exact ⟨rfl,hb0⟩
  ·rw [if_neg (by omega)]
   have d2:=decide_eq_false hc
   by_cases hs:s<s'
   ·rw [if_pos hs]
    exact meets_core _ _ _ _ _ _ w _ h' h ha hc (.inl ⟨rfl,hs⟩)
   ·rw [if_neg hs]
    exact meets_core _ _ _ _ _ _ w _ h h' hc ha (.inr ⟨rfl,hs⟩)
end Go.Proofs.YtihhhjodonkkcaaGreatDoor
