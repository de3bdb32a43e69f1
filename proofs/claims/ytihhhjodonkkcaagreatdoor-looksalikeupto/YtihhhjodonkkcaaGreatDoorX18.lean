/- Uf9 Ug9 Un9 -/
import Derived.Test.YtihhhjodonkkcaaGreatDoorX12
import Derived.Test.YtihhhjodonkkcaaGreatDoorX5
import Derived.Test.YtihhhjodonkkcaaGreatDoorX17
import Derived.Laws.Externs
import Derived.Laws.FloatArith
namespace Go.Proofs.YtihhhjodonkkcaaGreatDoor
open Go.RowKit Go.Sort Go.Shelf
open Ti
def encG (x:Tri.Rg):List Value:=[.int .i64 (Tri.lo x),.int .i64 (Tri.hi x),.int .i64 (Tri.vl x)]
theorem encG_len (x:Tri.Rg):(encG x).length=3:=rfl
theorem encG_one (x:Tri.Rg):∀ v∈encG x,v.oneCell'=true:=by
 intro v hv
 simp only [encG,List.mem_cons,List.mem_nil_iff,or_false] at hv
 rcases hv with rfl | rfl | rfl <;> rfl
def loG (x y:Tri.Rg):Int:=Lib.compareInt (Tri.lo x) (Tri.lo y)
theorem ltG (x y:Tri.Rg):ltOf loG x y=decide (Tri.lo x<Tri.lo y):=by
 unfold ltOf loG Lib.compareInt
 by_cases h1:Tri.lo x<Tri.lo y
 ·simp [h1]
 ·grind
theorem swoG:SWO (ltOf loG):={
 irrefl:=fun x=>by rw [ltG]; simp
 trans:=fun x y z h1 h2=>by rw [ltG] at *; simp at *; omega
 ntrans:=fun x y z h1 h2=>by rw [ltG] at *; simp at *; omega }
set_option maxRecDepth 8000 in
set_option maxHeartbeats 1000000 in
theorem byLoG_any (x y:Tri.Rg) W:Calls Tryz.prog 157 #[.agg (encG x).toArray,.agg (encG y).toArray] W fun e w'=>e=.returned (.int .i64 (loG x y))∧∃ q os',w'=grow (W.drewN q) os':=by
 have K:=Hd (fun W=>compareI_any (Tri.lo x) (Tri.lo y) W)
 have e:Lib.compareInt (Tri.lo x) (Tri.lo y)=loG x y:=rfl
 rw [e] at K
 show Calls Tryz.prog 157 #[.agg #[.int .i64 (Tri.lo x),.int .i64 (Tri.hi x),.int .i64 (Tri.vl x)],.agg #[.int .i64 (Tri.lo y),.int .i64 (Tri.hi y),.int .i64 (Tri.vl y)]] W _
 go_enter Tryz.func157,Tryz.ntmps157
 go_wp2_with fail
 refine ((Uh K) _).mono ?_
 rintro e w1 ⟨rfl,rfl⟩
 go_wp2
 go_ret
 exact ⟨rfl,0,_,by rw [alloc_eq_grow,alloc_eq_grow,grow_grow]; rfl⟩
theorem rcells_atG (xs:List Tri.Rg) i j (hi:i<xs.length) (hj:j<3):(Ti.rcells xs)[i * 3+j]?=some ((encG (xs.getD i (0,0,0)))[j]!):=by
 obtain ⟨h0,h1,h2⟩:=Ti.rcells_at xs i hi
 have hl:=Ti.rcells_len xs
 have e:∀ k,k<(Ti.rcells xs).length→(Ti.rcells xs)[k]?=some ((Ti.rcells xs).getD k undef):=fun k hk=>by simp [List.getD,hk]
 match j,hj with
 | 0,_=>rw [Nat.add_zero,e _ (by omega),h0]; rfl
 | 1,_=>rw [e _ (by omega),h1]; rfl
 | 2,_=>rw [e _ (by omega),h2]; rfl
theorem Or4.holds [Inhabited Tri.Rg] {w B g cap} {xs:List Tri.Rg} (h:Or4 w B (.slice (some ⟨g,0,none⟩) xs.length cap) xs):HoldsK encG 3 w g 0 xs.toArray:=by
 intro j hj
 rw [size_flatK] at hj
 have hj2:j<xs.length * 3:=by simpa using hj
 rw [get_flatK _ _ _ _ hj]
 have hd:j / 3<xs.length:=by omega
 have e:=h.2.2.cells (g:=g) rfl j _ (by
  have:=rcells_atG xs (j / 3) (j % 3) hd (by omega)
  rw [show j / 3 * 3+j % 3=j by omega] at this
  exact this)
 rw [addr_add,Nat.zero_add] at e
 have ed:xs.toArray[j / 3]! = xs.getD (j / 3) (0,0,0):=by grind
 rw [ed,Nat.zero_add]
 refine ⟨e,?_⟩
 rcases h.2.2.2 with ⟨hv,_⟩ | ⟨g',cap',cur,hv,_,hh,_⟩
 ·simp at hv
 ·simp only [Value.slice.injEq,Option.some.injEq,Addr.mk.injEq,and_true] at hv
  obtain ⟨rfl,_,_⟩:=hv
  exact frozen_of hh
theorem sort_grownG [Inhabited Tri.Rg] {w:World} {blk n} {d:Array Tri.Rg} {os:Array Obj}:w.grownBy (sortWorldK encG 3 w blk 0 n d os) (some blk):=by
 refine ⟨rfl,rfl,rfl,?_,fun k hk hne=>?_⟩
 ·show w.heap.size≤((putRowK encG 3 (Sort.ahead w n) blk 0 d).heap++os).size
  rw [Array.size_append]
  have:(putRowK encG 3 (Sort.ahead w n) blk 0 d).heap.size=w.heap.size:=by unfold putRowK; rw [size_putRow]; rfl
  omega
 ·show ((putRowK encG 3 (Sort.ahead w n) blk 0 d).heap++os)[k]?=_
  have hs:(putRowK encG 3 (Sort.ahead w n) blk 0 d).heap.size=w.heap.size:=by unfold putRowK; rw [size_putRow]; rfl
  rw [Array.getElem?_append_left (by omega)]
  show (w.heap.modify blk _)[k]?=_
  rw [Array.getElem?_modify,if_neg (fun e=>hne (by rw [e]))]
set_option maxRecDepth 8000 in
set_option maxHeartbeats 2000000 in
theorem insG_nil p cap fv w:Calls Tryz.prog 197 #[.slice p 0 cap,.int .i64 0,.int .i64 0,fv] w fun e w'=>e=.returned (.tuple #[])∧w'=w:=by
 go_enter Tryz.func197,Tryz.ntmps197
 go_wp2
 refine wp_loop_rounds 1 ?_
 rw [rounds_succ]
 go_wp2
 go_end0
 exact ⟨rfl,rfl⟩
set_option maxRecDepth 8000 in
set_option maxHeartbeats 2000000 in
theorem pdqG_nil p cap lim fv w:Calls Tryz.prog 184 #[.slice p 0 cap,.int .i64 0,.int .i64 0,.int .i64 lim,fv] w fun e w'=>e=.returned (.tuple #[])∧w'=w:=by
 have hi:=fun W=>insG_nil p cap fv W
 go_enter Tryz.func184,Tryz.ntmps184
 go_wp2
 refine wp_loop_rounds 1 ?_
 rw [rounds_succ]
 go_wp2_with (go_at_call 197; refine (hi _).mono ?_; rintro e w' ⟨rfl,rfl⟩)
 (try simp only [Exit.inBlock,Exit.then]); refine bodyPost_ret (results_none rfl _ _ _) rfl ?_
 exact ⟨rfl,rfl⟩
set_option maxRecDepth 8000 in
set_option maxHeartbeats 2000000 in
theorem sortG_nil p cap fv w:Calls Tryz.prog 156 #[.slice p 0 cap,fv] w fun e w'=>e=.returned (.tuple #[])∧w'=w:=by
 have hl:∀ W,Calls Tryz.prog 59 #[.int .u64 0] W fun e w'=>e=.returned (.int .i64 0)∧w'=W:=fun W =>
  Any.bits_Len (SlLaysF0.n15.bits (P:=Tryz.prog) (ρ:=Tryz.lays156_ren) { Tryz.lays156 with }) 0 W (by omega) (by omega)
 have hp:=fun lim W=>pdqG_nil p cap lim fv W
 go_enter Tryz.func156,Tryz.ntmps156
 go_wp2_with (first | (go_at_call 59; refine (hl _).mono ?_; rintro e w' ⟨rfl,rfl⟩) | (go_at_call 184; refine (hp _ _).mono ?_; rintro e w' ⟨rfl,rfl⟩))
 go_end0
 exact ⟨rfl,rfl⟩
def SortG (w:World) (v:Value) (xs:List Tri.Rg) (e:Ending) (w':World):Prop:=e=.returned (.tuple #[])∧∃ ys:List Tri.Rg,ys.Perm xs∧(ys.Pairwise fun a b=>Tri.lo a≤Tri.lo b)∧Sr w' v ys∧w.grownBy w' v.ownBlock
theorem sortG_any w B v (xs:List Tri.Rg) (h:Or4 w B v xs) (hl:xs.length≤5000000000):Calls Tryz.prog 156 #[v,.func (.func 157) #[] #[]] w (SortG w v xs):=by
 have inh:Inhabited Tri.Rg:=⟨(0,0,0)⟩
 have hsr:=h.sr
 rcases h.2.2.2 with ⟨rfl,h0⟩ | ⟨g,cap,cur,rfl,hg,hh,hn,hcap,hsz,htake⟩
 ·obtain rfl:xs=[]:=List.eq_nil_of_length_eq_zero h0
  refine (sortG_nil none 0 _ w).mono ?_
  rintro e w' ⟨rfl,rfl⟩
  exact ⟨rfl,[],List.Perm.refl _,.nil,hsr,⟨rfl,rfl,rfl,Nat.le_refl _,fun _ _ _=>rfl⟩⟩
 ·have hlt:=(h.2.2.lt g rfl).2
  have hH:=Or4.holds h
  have eg:∀ args w,(callFunc 157 args).run Tryz.prog w=.ok (.enter 157 args) w:=enters_of Tryz.func157 (by kernel_rfl) rfl
  have hcmp:CmpLays Tryz.prog 157 #[] encG 3 loG g 0 xs.toArray.size w:=fun _ _ _ _ x y=>byLoG_any x y _
  have aE:∀ w,(isAgg 218).run Tryz.prog w=.ok true w:=Tryz.isAgg218
  have zE:∀ w,(Go.sizeOf 218).run Tryz.prog w=.ok 3 w:=Tryz.sizeOf218
  have K:=AnyQ.slices_SortFunc Tryz.lays156 3 aE zE encG encG_len encG_one loG swoG 157 #[] g 0 cap xs.toArray w eg hcmp hH hlt (by simp; omega)
  change Calls Tryz.prog 156 #[.slice (some ⟨g,0,none⟩) xs.length cap,_] w _ at K
  refine K.mono ?_
  rintro e w' ⟨rfl,d',n,os,⟨p1,_,p3⟩,hs,rfl⟩
  have hds:d'.size=xs.length:=by simpa using p1
  have hper:d'.toList.Perm xs:=by
   have e1:d'.extract 0 xs.toArray.size=d':=by grind
   rw [e1] at p3
   simpa using p3
  have hw':SWK encG 3 w g 0 d' (sortWorldK encG 3 w g 0 n d' os):=⟨n,os,rfl⟩
  have hh':=hw'.holds hlt hH p1
  have hdl:d'.toList.length=xs.length:=by omega
  refine ⟨rfl,d'.toList,hper,?_,⟨fun x hx=>h.1 x (hper.mem_iff.1 hx),?_,by rw [hdl]; exact h.2.1,.inr ⟨g,0,cap,by rw [hdl],by rw [hdl]; exact hn,by unfold maxLen at hcap; omega,fun i hi=>?_⟩⟩,sort_grownG⟩
  ·rw [List.pairwise_iff_getElem]
   intro i j hi hj hij
   have:=hs i j (Nat.zero_le _) hij (by simp at hj ⊢; omega)
   rw [ltG,decide_eq_false_iff_not] at this
   rw [getElem!_pos d' j (by simpa using hj),getElem!_pos d' i (by simpa using hi)] at this
   simp only [Array.getElem_toList]
   omega
  ·rw [Ti.rcells_len]
  ·rw [hdl] at hi
   have hi3:i / 3<d'.size:=by omega
   have:=(hh'.cell (i:=i / 3) (c:=i % 3) hi3 (by omega)).1
   rw [Nat.zero_add,show i / 3 * 3+i % 3=i by omega] at this
   rw [Nat.zero_add,this,getElem!_pos d' _ hi3]
   have hq:=rcells_atG d'.toList (i / 3) (i % 3) (by rw [hdl]; omega) (by omega)
   rw [show i / 3 * 3+i % 3=i by omega] at hq
   rw [List.getD,hq]
   simp [List.getD,hi3]
open Go.RowKit
open Ti
def BuiltB (w0:World) (xs:List Tri.Rg) (e:Ending) (w':World):Prop:=∃ a m,e=.returned (.pointer (some a))∧m.Perm xs∧(m.Pairwise fun x y=>Tri.lo x≤Tri.lo y)∧T4 w' w0.heap.size (.pointer (some a)) m 0∧Below w0.heap.size w0 w'
set_option maxRecDepth 8000 in
set_option maxHeartbeats 2000000 in
theorem built_any w0 w v (xs:List Tri.Rg) (hb:Below w0.heap.size w0 w) (h:Or4 w w0.heap.size v xs) (hl:xs.length≤5000000000) (hv:∀ m:List Tri.Rg,m.Perm xs→(m.Pairwise fun x y=>Tri.lo x≤Tri.lo y)→Tri.Val 0 m):Calls Tryz.prog 126 #[v] w (BuiltB w0 xs):=by
 have K1:=Hd (sortG_any w w0.heap.size v xs h hl)
 have HG:Hid (∀ w',w.grownBy w' v.ownBlock→Below w0.heap.size w0 w'):=fun w' hg=>hb.grown hg hb.size (fun k hk=>(h.2.2.lt k hk).1)
 have HV:=Hd hv
 obtain ⟨ao,cap,rfl,_,_⟩:=h.sr.shape
 go_enter Tryz.func126,Tryz.ntmps126
 go_wp2_with fail
 refine (Uh K1).mono ?_
 rintro e1 w1 ⟨rfl,ys,hp,hso,hsr,hg⟩
 have hb1:=(Uh HG) w1 hg
 have hval:=(Uh HV) ys hp hso
 have K2:=Hd (build4 _ ys 0 w1 hsr ⟨by omega,by omega⟩)
 have hck:(Tri.check 0 ys).2=0:=Tri.check_ok.2 ⟨hval,by omega,by omega⟩
 have HCK:=Hd hck
 have HP:=Hd hp
 have HSO:=Hd hso
 have HB1:=Hd hb1
 go_wp2_with fail
 refine (Uh K2).mono ?_
 rintro e2 w2 ⟨hb2,⟨_,a,rfl,hT⟩ | ⟨hno,_⟩⟩
 ·have HF:BuiltB w0 xs (.returned (.pointer (some a))) w2:=⟨a,ys,rfl,Uh HP,Uh HSO,hT.lower (Uh HB1).size,bthen (Uh HB1) hb2⟩
  go_wp2
  go_ret
  exact HF
 ·exact absurd (Uh HCK) hno
def isNaNB (b:Nat):Bool:=FloatKind.f64.format.order b b != some Ordering.eq
theorem uIsNaN_any b w:Calls Tryz.prog 159 #[.float .f64 b] w fun e w'=>e=.returned (.bool (isNaNB b))∧w'=w:=by
 go_enter Tryz.func159,Tryz.ntmps159
 go_wp2
 go_ret
 exact ⟨rfl,rfl⟩
theorem ufrombits n w:(callFunc 187 #[.int .u64 n]).run Tryz.prog w=.ok (.value (.float .f64 n.toNat)) w:=by
 rw [run_callFunc_extern (e:=Extern.MathFloatBits.float64frombits) Tryz.func187 (by kernel_rfl) (by kernel_rfl) (by kernel_rfl) (by kernel_rfl)]
 rfl
theorem ufloat_any n w:Calls Tryz.prog 160 #[.int .u64 n] w fun e w'=>e=.returned (.float .f64 n.toNat)∧w'=w:=by
 have h:=ufrombits n
 go_enter Tryz.func160,Tryz.ntmps160
 go_wp2
 go_ret
 exact ⟨rfl,rfl⟩
theorem to32 b w:∃ u n,(convert 57 224 (.float .f64 b)).run Tryz.prog w=.ok (.float .f32 u) (w.drewN n):=by
 have hs:=Tryz.underlying57
 have hd:=Tryz.underlying224
 have key:∃ u n,(Conv.floatToFloat .f64 b .f32).run Tryz.prog w=.ok (.float .f32 u) (w.drewN n):=by
  unfold Conv.floatToFloat
  rw [if_neg (by decide)]
  split
  ·rw [Sem.run_bind,run_choose_drew]
   split
   ·exact ⟨_,0,rfl⟩
   ·exact ⟨_,1,rfl⟩
  ·exact ⟨_,0,rfl⟩
  ·dsimp only
   split
   ·rw [Sem.run_bind,run_choose_drew]
    split
    ·exact ⟨_,0,rfl⟩
    ·exact ⟨_,1,rfl⟩
   ·exact ⟨_,0,rfl⟩
 obtain ⟨u,n,h⟩:=key
 refine ⟨u,n,?_⟩
 rw [← h]
 simp [convert,run_underlying hs,run_underlying hd]
theorem to64 b w:∃ u n,(convert 224 57 (.float .f32 b)).run Tryz.prog w=.ok (.float .f64 u) (w.drewN n):=by
 have hs:=Tryz.underlying224
 have hd:=Tryz.underlying57
 have key:∃ u n,(Conv.floatToFloat .f32 b .f64).run Tryz.prog w=.ok (.float .f64 u) (w.drewN n):=by
  unfold Conv.floatToFloat
  rw [if_neg (by decide)]
  split
  ·rw [Sem.run_bind,run_choose_drew]
   split
   ·exact ⟨_,0,rfl⟩
   ·exact ⟨_,1,rfl⟩
  ·exact ⟨_,0,rfl⟩
  ·dsimp only
   split
   ·rw [Sem.run_bind,run_choose_drew]
    split
    ·exact ⟨_,0,rfl⟩
    ·exact ⟨_,1,rfl⟩
   ·exact ⟨_,0,rfl⟩
 obtain ⟨u,n,h⟩:=key
 refine ⟨u,n,?_⟩
 rw [← h]
 simp [convert,run_underlying hs,run_underlying hd]
theorem narrow_some b w:Calls Tryz.prog 127 #[.float .f64 b] w fun e w'=>∃ u n,e=.returned (.float .f64 u)∧w'=w.drewN n:=by
 have K1:=Hd (uIsNaN_any b w)
 have K2:=Hd (fun w=>ufloat_any 9221120237041090560 w)
 obtain ⟨u1,n1,h1⟩:=to32 b w
 obtain ⟨u2,n2,h2⟩:=to64 u1 (w.drewN n1)
 generalize isNaNB b=t at *
 cases t with
 | true =>
  go_enter Tryz.func127,Tryz.ntmps127
  go_wp2_with fail
  refine (Uh K1).mono ?_
  rintro e w ⟨rfl,rfl⟩
  go_wp2_with fail
  refine ((Uh K2) _).mono ?_
  rintro e w ⟨rfl,rfl⟩
  go_wp2
  go_ret
  exact ⟨_,0,rfl,rfl⟩
 | false =>
  go_enter Tryz.func127,Tryz.ntmps127
  go_wp2_with fail
  refine (Uh K1).mono ?_
  rintro e w ⟨rfl,rfl⟩
  go_wp2
  go_ret
  exact ⟨_,n1+n2,rfl,by first | rfl | (simp [World.drewN]; omega)⟩
end Go.Proofs.YtihhhjodonkkcaaGreatDoor
