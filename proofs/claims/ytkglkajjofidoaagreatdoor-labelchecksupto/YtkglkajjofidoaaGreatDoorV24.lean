/- Uf9 Ug9 Un9 -/
import Derived.Test.YtkglkajjofidoaaGreatDoorV18
import Derived.Test.YtkglkajjofidoaaGreatDoorV11
import Derived.Test.YtkglkajjofidoaaGreatDoorV23
import Derived.Laws.Externs
import Derived.Laws.FloatArith
set_option maxHeartbeats 2000000
set_option maxRecDepth 8000
namespace Go.Proofs.YtkglkajjofidoaaGreatDoor
open Go.Proofs.Tryz
open Go.RowKit Go.Sort Go.Shelf
open Ti
def encG (x:Tri.Rg):List Value:=[.int .i64 (Tri.lo x),.int .i64 (Tri.hi x),.int .i64 (Tri.vl x)]
theorem y6v (x:Tri.Rg):(encG x).length=3:=rfl
theorem y6w (x:Tri.Rg):∀ v∈encG x,v.oneCell'=true:=by
 intro v hv;simp only [encG,List.mem_cons,List.mem_nil_iff,or_false] at hv;rcases hv with rfl | rfl | rfl <;> rfl
def loG (x y:Tri.Rg):Int:=Lib.compareInt (Tri.lo x) (Tri.lo y)
theorem ltG (x y:Tri.Rg):ltOf loG x y=decide (Tri.lo x<Tri.lo y):=by
 unfold ltOf loG Lib.compareInt;by_cases h1:Tri.lo x<Tri.lo y
 ·simp [h1]
 ·by_cases h2:Tri.lo y<Tri.lo x <;> simp [h1,h2]
theorem swoG:SWO (ltOf loG):={
 irrefl:=fun x=>by rw [ltG]; simp
 trans:=fun x y z h1 h2=>by rw [ltG] at *; simp at *; omega
 ntrans:=fun x y z h1 h2=>by rw [ltG] at *; simp at *; omega }
theorem y3g (x y:Tri.Rg) (W:World):Calls prog 158 #[.agg (encG x).toArray,.agg (encG y).toArray] W fun e w'=>e=.returned (.int .i64 (loG x y))/\∃ q os',w'=grow (W.drewN q) os':=by
 have K:=O (fun W=>x2k (Tri.lo x) (Tri.lo y) W);have e:Lib.compareInt (Tri.lo x) (Tri.lo y)=loG x y:=rfl;rw [e] at K;generalize loG x y=z at *;show Calls prog 158 #[.agg #[.int .i64 (Tri.lo x),.int .i64 (Tri.hi x),.int .i64 (Tri.vl x)],.agg #[.int .i64 (Tri.lo y),.int .i64 (Tri.hi y),.int .i64 (Tri.vl y)]] W _;clear e;generalize Tri.lo x=x0 at *;generalize Tri.hi x=x1 at *;generalize Tri.vl x=x2 at *;generalize Tri.lo y=y0 at *;generalize Tri.hi y=y1 at *;generalize Tri.vl y=y2 at *;go_enter func158,ntmps158;go_wp2_with fail;refine (V K _).mono ?_;rintro e w1 ⟨rfl,rfl⟩;clear K;go_wp2;go_ret;exact ⟨rfl,0,_,by rw [alloc_eq_grow,alloc_eq_grow,grow_grow]; rfl⟩
theorem x6k (xs:List Tri.Rg) (i j:Nat) (hi:i<xs.length) (hj:j<3):(Ti.rcells xs)[i * 3+j]?=some ((encG (xs.getD i (0,0,0)))[j]!):=by
 obtain ⟨h0,h1,h2⟩:=Ti.x1j xs i hi;have hl:=Ti.x1x xs;have e:∀ k,k<(Ti.rcells xs).length->(Ti.rcells xs)[k]?=some ((Ti.rcells xs).getD k undef):=fun k hk=>by simp [List.getD,hk]
 match j,hj with
 | 0,_=>rw [Nat.add_zero,e _ (by omega),h0]; rfl
 | 1,_=>rw [e _ (by omega),h1]; rfl
 | 2,_=>rw [e _ (by omega),h2]; rfl
theorem Or4.holds [Inhabited Tri.Rg] {w:World} {B g cap:Nat} {xs:List Tri.Rg} (h:Or4 w B (.slice (some ⟨g,0,none⟩) xs.length cap) xs):HoldsK encG 3 w g 0 xs.toArray:=by
 intro j hj;rw [size_flatK] at hj;have hj2:j<xs.length * 3:=(by simpa using hj);rw [get_flatK _ _ _ _ hj];have hd:j / 3<xs.length:=by omega
 have e:=h.2.2.cells (g:=g) rfl j _ (by
  have:=x6k xs (j / 3) (j % 3) hd (by omega);rw [show j / 3 * 3+j % 3=j by omega] at this
  exact this)
 rw [addr_add,Nat.zero_add] at e
 have ed:xs.toArray[j / 3]! = xs.getD (j / 3) (0,0,0):=by
  rw [getElem!_pos _ _ (by simpa using hd)];simp [List.getD,hd]
 rw [ed,Nat.zero_add];refine ⟨e,?_⟩;rcases h.2.2.2 with ⟨hv,_⟩ | ⟨g',cap',cur,hv,_,hh,_⟩
 ·simp at hv
 ·simp only [Value.slice.injEq,Option.some.injEq,Addr.mk.injEq,and_true] at hv;obtain ⟨rfl,_,_⟩:=hv;exact x0e hh
theorem x9N [Inhabited Tri.Rg] {w:World} {blk n:Nat} {d:Array Tri.Rg} {os:Array Obj}:w.grownBy (sortWorldK encG 3 w blk 0 n d os) (some blk):=by
 refine ⟨rfl,rfl,rfl,?_,fun k hk hne=>?_⟩
 ·show w.heap.size<=((putRowK encG 3 (Sort.ahead w n) blk 0 d).heap++os).size;rw [Array.size_append];have:(putRowK encG 3 (Sort.ahead w n) blk 0 d).heap.size=w.heap.size:=(by unfold putRowK; rw [size_putRow]; rfl);omega
 ·show ((putRowK encG 3 (Sort.ahead w n) blk 0 d).heap++os)[k]?=_;have hs:(putRowK encG 3 (Sort.ahead w n) blk 0 d).heap.size=w.heap.size:=(by unfold putRowK; rw [size_putRow]; rfl);rw [Array.getElem?_append_left (by omega)];show (w.heap.modify blk _)[k]?=_;rw [Array.getElem?_modify,if_neg (fun e=>hne (by rw [e]))]
theorem y6M (p:Option Addr) (cap:Nat) (fv:Value) (w:World):Calls prog 225 #[.slice p 0 cap,.int .i64 0,.int .i64 0,fv] w fun e w'=>e=.returned (.tuple #[])/\w'=w:=by
 go_enter func225,ntmps225;go_wp2;refine wp_loop_rounds 1 ?_;rw [rounds_succ];go_wp2;go_end0;exact ⟨rfl,rfl⟩
theorem y7l (p:Option Addr) (cap:Nat) (ai:Int) (fv:Value) (w:World):Calls prog 194 #[.slice p 0 cap,.int .i64 0,.int .i64 0,.int .i64 ai,fv] w fun e w'=>e=.returned (.tuple #[])/\w'=w:=by
 have hi:=fun W=>y6M p cap fv W;go_enter func194,ntmps194;go_wp2;refine wp_loop_rounds 1 ?_;rw [rounds_succ];go_wp2_with (go_at_call 225; refine (hi _).mono ?_; rintro e w' ⟨rfl,rfl⟩)
 (try simp only [Exit.inBlock,Exit.then]); refine bodyPost_ret (results_none rfl _ _ _) rfl ?_
 exact ⟨rfl,rfl⟩
theorem y5q (p:Option Addr) (cap:Nat) (fv:Value) (w:World):Calls prog 157 #[.slice p 0 cap,fv] w fun e w'=>e=.returned (.tuple #[])/\w'=w:=by
 have hl:∀ W,Calls prog 143 #[.int .u64 0] W fun e w'=>e=.returned (.int .i64 0)/\w'=W:=fun W =>
  Any.bits_Len (SlLaysF0.n15.bits (P:=prog) (ρ:=Tryz.lays157_ren) { Tryz.lays157 with }) 0 W (by omega) (by omega)
 have hp:=fun ai W=>y7l p cap ai fv W;go_enter func157,ntmps157;go_wp2_with (first | (go_at_call 143; refine (hl _).mono ?_; rintro e w' ⟨rfl,rfl⟩) | (go_at_call 194; refine (hp _ _).mono ?_; rintro e w' ⟨rfl,rfl⟩));go_end0;exact ⟨rfl,rfl⟩
def SortG (w:World) (v:Value) (xs:List Tri.Rg) (e:Ending) (w':World):Prop:=e=.returned (.tuple #[])/\∃ ys:List Tri.Rg,ys.Perm xs/\(ys.Pairwise fun a b=>Tri.lo a<=Tri.lo b)/\Sr w' v ys/\w.grownBy w' v.ownBlock
theorem x8D (w:World) (B:Nat) (v:Value) (xs:List Tri.Rg) (h:Or4 w B v xs) (hl:xs.length<=5000000000):Calls prog 157 #[v,.func (.func 158) #[] #[]] w (SortG w v xs):=by
 have inh:Inhabited Tri.Rg:=⟨(0,0,0)⟩;have ac:=h.sr;rcases h.2.2.2 with ⟨rfl,h0⟩ | ⟨g,cap,cur,rfl,hg,hh,hn,hcap,hsz,htake⟩
 ·obtain rfl:xs=[]:=List.eq_nil_of_length_eq_zero h0;refine (y5q none 0 _ w).mono ?_;rintro e w' ⟨rfl,rfl⟩;exact ⟨rfl,[],List.Perm.refl _,.nil,ac,⟨rfl,rfl,rfl,l0r _,fun _ _ _=>rfl⟩⟩
 ·have ap:=(h.2.2.lt g rfl).2;have hH:=Or4.holds h;have eg:∀ args w,(callFunc 158 args).run prog w=.ok (.enter 158 args) w:=enters_of func158 (by kernel_rfl) rfl;have ae:CmpLays prog 158 #[] encG 3 loG g 0 xs.toArray.size w:=fun _ _ _ _ x y=>y3g x y _;have aE:∀ w,(isAgg 208).run prog w=.ok true w:=Tryz.isAgg208;have zE:∀ w,(Go.sizeOf 208).run prog w=.ok 3 w:=Tryz.sizeOf208;have K:=AnyQ.slices_SortFunc Tryz.lays157 3 aE zE encG y6v y6w loG swoG 158 #[] g 0 cap xs.toArray w eg ae hH ap (by simp; omega);change Calls prog 157 #[.slice (some ⟨g,0,none⟩) xs.length cap,_] w _ at K;refine K.mono ?_;rintro e w' ⟨rfl,d',n,os,⟨p1,_,p3⟩,hs,rfl⟩;have aq:d'.size=xs.length:=by simpa using p1
  have ab:d'.toList.Perm xs:=by
   have e1:d'.extract 0 xs.toArray.size=d':=(by rw [<- p1,Array.extract_size]);rw [e1] at p3;simpa using p3
  have hw':SWK encG 3 w g 0 d' (sortWorldK encG 3 w g 0 n d' os):=⟨n,os,rfl⟩;have hh':=hw'.holds ap hH p1;have aa:d'.toList.length=xs.length:=(by simpa using aq);refine ⟨rfl,d'.toList,ab,?_,⟨fun x hx=>h.1 x (ab.mem_iff.1 hx),?_,by rw [aa]; exact h.2.1,.inr ⟨g,0,cap,by rw [aa],by rw [aa]; exact hn,by unfold maxLen at hcap; omega,fun i hi=>?_⟩⟩,x9N⟩
  ·rw [List.pairwise_iff_getElem];intro i j hi hj ar;have:=hs i j (Nat.zero_le _) ar (by simp at hj ⊢; omega);rw [ltG,decide_eq_false_iff_not] at this;rw [getElem!_pos d' j (by simpa using hj),getElem!_pos d' i (by simpa using hi)] at this;simp only [Array.getElem_toList];omega
  ·rw [Ti.x1x]
  ·rw [aa] at hi;have af:i / 3<d'.size:=(by omega);have:=(hh'.cell (i:=i / 3) (c:=i % 3) af (by omega)).1;rw [Nat.zero_add,show i / 3 * 3+i % 3=i by omega] at this;rw [Nat.zero_add,this,getElem!_pos d' _ af];have hq:=x6k d'.toList (i / 3) (i % 3) (by rw [aa]; omega) (by omega);rw [show i / 3 * 3+i % 3=i by omega] at hq;rw [List.getD,hq];simp [List.getD,af]
open Go.RowKit
open Ti
def x4A (w0:World) (xs:List Tri.Rg) (e:Ending) (w':World):Prop:=∃ a m,e=.returned (.pointer (some a))/\m.Perm xs/\(m.Pairwise fun x y=>Tri.lo x<=Tri.lo y)/\T4 w' w0.heap.size (.pointer (some a)) m 0/\Below w0.heap.size w0 w'
theorem y3f (w0 w:World) (v:Value) (xs:List Tri.Rg) (hb:Bw w0 w) (h:Or4 w w0.heap.size v xs) (hl:xs.length<=5000000000) (hv:∀ m:List Tri.Rg,m.Perm xs->(m.Pairwise fun x y=>Tri.lo x<=Tri.lo y)->Tri.Val 0 m):Calls prog 121 #[v] w (x4A w0 xs):=by
 have K1:=O (x8D w w0.heap.size v xs h hl);have HG:Hid (∀ w',w.grownBy w' v.ownBlock->Bw w0 w'):=fun w' hg=>hb.grown hg hb.size (fun k hk=>(h.2.2.lt k hk).1);have HV:=O hv;obtain ⟨ao,cap,rfl,_,_⟩:=h.sr.shape;clear h hb hv;go_enter func121,ntmps121;go_wp2_with fail;refine (V K1).mono ?_;rintro e1 w1 ⟨rfl,ys,hp,ag,ac,hg⟩;have al:=V HG w1 hg;have hval:=V HV ys hp ag;have K2:=O (y8b _ ys 0 w1 ac ⟨by omega,by omega⟩);have an:(Tri.check 0 ys).2=0:=Tri.x3b.2 ⟨hval,by omega,by omega⟩;have aj:=O an;have HP:=O hp;have ak:=O ag;have ad:=O al;clear K1 HG HV hp ag ac hg hval an al;go_wp2_with fail;refine (V K2).mono ?_;rintro e2 w2 ⟨am,⟨_,a,rfl,hT⟩ | ⟨au,_⟩⟩
 ·have HF:x4A w0 xs (.returned (.pointer (some a))) w2:=⟨a,ys,rfl,V HP,V ak,hT.lower (V ad).size,x0b (V ad) am⟩;clear K2 hT am ad HP ak aj;go_wp2;go_ret;exact HF
 ·exact absurd (V aj) au
def isNaNB (b:Nat):Bool:=FloatKind.f64.format.order b b != some Ordering.eq
theorem y2B (b:Nat) (w:World):Calls prog 160 #[.float .f64 b] w fun e w'=>e=.returned (.bool (isNaNB b))/\w'=w:=by
 go_enter func160,ntmps160;go_wp2;go_ret;exact ⟨rfl,rfl⟩
theorem y5H (n:Int) (w:World):(callFunc 197 #[.int .u64 n]).run prog w=.ok (.value (.float .f64 n.toNat)) w:=by
 rw [run_callFunc_extern (e:=Extern.MathFloatBits.float64frombits) func197 (by kernel_rfl) (by kernel_rfl) (by kernel_rfl) (by kernel_rfl)];rfl
theorem y2C (n:Int) (w:World):Calls prog 161 #[.int .u64 n] w fun e w'=>e=.returned (.float .f64 n.toNat)/\w'=w:=by
 have h:=y5H n;go_enter func161,ntmps161;go_wp2;go_ret;exact ⟨rfl,rfl⟩
theorem to32 (b:Nat) (w:World):∃ u n,(convert 48 214 (.float .f64 b)).run prog w=.ok (.float .f32 u) (w.drewN n):=by
 have hs:=underlying48;have hd:=underlying214
 have ah:∃ u n,(Conv.floatToFloat .f64 b .f32).run prog w=.ok (.float .f32 u) (w.drewN n):=by
  unfold Conv.floatToFloat;rw [if_neg (by decide)];split
  ·rw [Sem.run_bind,run_choose_drew];split
   ·exact ⟨_,0,rfl⟩
   ·exact ⟨_,1,rfl⟩
  ·exact ⟨_,0,rfl⟩
  ·dsimp only;split
   ·rw [Sem.run_bind,run_choose_drew];split
    ·exact ⟨_,0,rfl⟩
    ·exact ⟨_,1,rfl⟩
   ·exact ⟨_,0,rfl⟩
 obtain ⟨u,n,h⟩:=ah;refine ⟨u,n,?_⟩;rw [<- h];simp [convert,run_underlying hs,run_underlying hd]
theorem to64 (b:Nat) (w:World):∃ u n,(convert 214 48 (.float .f32 b)).run prog w=.ok (.float .f64 u) (w.drewN n):=by
 have hs:=underlying214;have hd:=underlying48
 have ah:∃ u n,(Conv.floatToFloat .f32 b .f64).run prog w=.ok (.float .f64 u) (w.drewN n):=by
  unfold Conv.floatToFloat;rw [if_neg (by decide)];split
  ·rw [Sem.run_bind,run_choose_drew];split
   ·exact ⟨_,0,rfl⟩
   ·exact ⟨_,1,rfl⟩
  ·exact ⟨_,0,rfl⟩
  ·dsimp only;split
   ·rw [Sem.run_bind,run_choose_drew];split
    ·exact ⟨_,0,rfl⟩
    ·exact ⟨_,1,rfl⟩
   ·exact ⟨_,0,rfl⟩
 obtain ⟨u,n,h⟩:=ah;refine ⟨u,n,?_⟩;rw [<- h];simp [convert,run_underlying hs,run_underlying hd]
theorem x9w (b:Nat) (w:World):Calls prog 123 #[.float .f64 b] w fun e w'=>∃ u n,e=.returned (.float .f64 u)/\w'=w.drewN n:=by
 have K1:=O (y2B b w);have K2:=O (fun w=>y2C 9221120237041090560 w);obtain ⟨u1,n1,h1⟩:=to32 b w;obtain ⟨u2,n2,h2⟩:=to64 u1 (w.drewN n1);generalize isNaNB b=t at *
 cases t with
 | true =>
  go_enter func123,ntmps123;go_wp2_with fail;refine (V K1).mono ?_;rintro e w ⟨rfl,rfl⟩;go_wp2_with fail;refine (V K2 _).mono ?_;rintro e w ⟨rfl,rfl⟩;clear K1 K2;go_wp2;go_ret;exact ⟨_,0,rfl,rfl⟩
 | false =>
  go_enter func123,ntmps123;go_wp2_with fail;refine (V K1).mono ?_;rintro e w ⟨rfl,rfl⟩;clear K1 K2;go_wp2;go_ret;exact ⟨_,n1+n2,rfl,by first | rfl | (simp [World.drewN]; omega)⟩
