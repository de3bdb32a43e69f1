/- Lemmas. -/
import Derived.Test.YtkfcabdmkmljjaaGreatDoorF9
import Derived.Shelf.SlSortCmp.WholeK
import Derived.Test.YtkfcabdmkmljjaaGreatDoorF12
set_option maxHeartbeats 8000000
set_option maxRecDepth 8000
namespace Go.Proofs.YtkfcabdmkmljjaaGreatDoor
open Go.Proofs.Tryz
open Go.RowKit
section
variable{p:Prop}
theorem u6L(h:p:=by go_wp2_with fail;refine(V K _).mono ?_;rintro e Q ⟨rfl,rfl⟩;go_wp2;go_ret;exact⟨rfl,0,_,by rw[alloc_eq_grow,alloc_eq_grow,grow_grow];rfl⟩):p:=h
theorem v0l(h:p:=by simp[Instr.lookup,run_underlying underlying166,MapKept.run_getObj_map Y,pairLaw2.check w _ S,Z,Result.andThen,A]):p:=h
theorem P0n(h:p:=by simp[Instr.lookup,run_underlying B,MapKept.run_getObj_map Y,L.check w _ _ G,Z,Result.andThen,u]):p:=h
theorem f0B(h:p:=by go_wp2;refine wp_loop_rounds 1 ?_;rw[rounds_succ];go_wp2;go_end0;exact g9S):p:=h
theorem r2O(h:p:=by unfold putRowK;rw[size_putRow];rfl):p:=h
theorem P5t(h:p:=by simp[Instr.lookup,run_underlying underlying166,MapKept.run_getObj_map Y,pairLaw2.check w _ S,Z,Result.andThen]):p:=h
theorem m8y(h:p:=by
 (try simp only[Exit.inBlock,Exit.then]);refine bodyPost_ret (results_none rfl _ _ _) rfl ?_
 exact g9S):p:=h
theorem T7Q(h:p:=by simp[Instr.lookup,run_underlying B,MapKept.run_getObj_map Y,L.check w _ _ G,Z,Result.andThen]):p:=h
theorem V4f(h:p:=by rw[Array.getElem?_append_left f6J];show(w.heap.modify blk _)[k]?=_;rw[Array.getElem?_modify,if_neg (fun e=>y n5N)]):p:=h
theorem s7A(h:p:=by rw[getElem!_pos J j s4R,getElem!_pos J i w3A]at this;simp only[Array.getElem_toList];omega):p:=h
theorem g6k(h:p:=by simp only[Value.slice.injEq,Option.some.injEq,Addr.mk.injEq,and_true]at N;obtain⟨rfl,_,_⟩:=N;exact x0d X):p:=h
theorem S1f(h:p:=by rw[L _ (x0G h.hx) (fun e=>(B _ e).2.2 rfl)];exact h.hx):p:=h
theorem G2Z(h:p:=by rw[ltLo]at *;simp at *;exact f6J):p:=h
theorem R5c(h:p:=by have H:=V o true _ ((V R).trans (by simp[C])) m;clear R S o m;go_wp2;go_ret;exact H):p:=h
theorem m0Y(h:p:=by rw[x0e _ f6J,L _ (x0G h.hr) (fun e=>(B _ e).1 rfl)];exact h.hr):p:=h
theorem n9e(h:p:=by simp[q]):p:=h
theorem R2k(h:p:=by rw[x0e _ f6J,L _ (x0G a) (fun e=>(B _ e).2.1 rfl)];exact a):p:=h
end
def Cn.wpair(l:List Rec)(c a b:Int):Bool:=decide (Cn.cls l c≠0)||decide (Cn.cls l a≠0)||decide (Cn.opn l b≠[])||(decide (Cn.opn l a≠[])&&(Cn.prim l a).isNone)||decide (b<128)||decide (a=46)
theorem Cn.pair_w l i r:Cn.pair l i r=(!(Cn.wpair l r.lo (r.to.getD 0 0) (r.to.getD 1 0))&&!((l.take i).any fun k=>decide (k.kind=7/\k.to.getD 0 0=r.to.getD 0 0/\k.to.getD 1 0=r.to.getD 1 0))):=rfl
theorem z0c{zs:List Int}:decide (zs≠[])=decide (0<zs.length):=by
 cases zs<;>simp
theorem OpB.sk{w0 w w1 v zs}(h:Sk .i32 w0 v zs\/Ok .i32 21 w1 w.heap.size v zs)(y:Bw w0 w)(Y:Bw w w1):Sk .i32 w1 v zs:=by
 rcases h with h | h
 ·exact(h.below y).below Y
 ·exact h.sk
theorem z1E l cs os cv ov mr c a b w(hg:Glob w)(h:Idx l w cv ov cs os)(I:Rune c)(ha:Rune a)(t:Rune b):Calls prog 141 #[xV cv ov (.map (some mr)),.int .i32 c,.int .i32 a,.int .i32 b] w (x0g w (Cn.wpair l c a b)):=by
 obtain⟨g,Z,rfl,_,_⟩:=h.rc.shape;obtain⟨P,B,rfl,_,_⟩:=h.ro.shape;obtain⟨Q,D⟩:∃Q,w.alloc (.cells #[.slice g cs.length Z,.slice P os.length B,.map (some mr)] 168)=Q:=⟨_,rfl⟩;have hb:Bw w Q:=D ▸ (b0r).alloc (l0r _) _;have f:Q.heap.size=w.heap.size+1:=by rw[<- D];exact M7L
 have Y:Q.heap[w.heap.size]?=some (.cells #[.slice g cs.length Z,.slice P os.length B,.map (some mr)] 168 (0,0)):=by
  rw[<- D];exact R0n
 have x:=fun W (U:Bw Q W)=>hb.trans (U.mono f6J);have S:=O fun W U=>And.intro (x W U) (cells3 ((U.block _ f6J).trans Y));have K1:=O fun W U=>x5j l cs os _ _ mr c W (hg.on (x W U)) (h.below (x W U)) I;have j:=O fun W U=>x5j l cs os _ _ mr a W (hg.on (x W U)) (h.below (x W U)) ha;have K3:=O fun W U=>x7G l cs os _ _ mr b w W hg h (x W U) t;have A:=O fun W U=>x7G l cs os _ _ mr a w W hg h (x W U) ha;have y:=O fun W U=>z1O l cs os _ _ mr a W (hg.on (x W U)) (h.below (x W U)) ha;obtain⟨L,N⟩:∃L,Cn.wpair l c a b=L:=⟨_,rfl⟩;rw[N];have o:Hid (∀z W,L=z->Bw Q W->x0g w L (.returned (.bool z)) W):=fun z W e U=>⟨by rw[e],x W U⟩
 have R:Hid (L=(decide (Cn.cls l c≠0)||decide (Cn.cls l a≠0)||decide (0<(Cn.opn l b).length)||(decide (0<(Cn.opn l a).length)&&!(Cn.prim l a).isSome)||decide (b<128)||decide (a=46))):=N.symm.trans (by
  unfold Cn.wpair;rw[z0c,z0c]
  cases Cn.prim l a<;>rfl)
 have m:=Below.refl Q.heap.size Q;clear x h hg I ha t N hb f Y;generalize Cn.cls l c=n1,Cn.cls l a=n2,Cn.opn l b=z3,Cn.opn l a=z4,(Cn.prim l a).isSome=i at *;unfold xV at *;subst D;go_enter func141,ntmps141;go_wp2_with fail;refine c1m (V K1 _ m) fun wr b1=>?_;replace m:=bthen m b1;clear b1 K1;obtain⟨_,u,F,s⟩:=V S _ m;rcases Decidable.em (n1=0)with rfl | q;rotate_left
 ·have d:(n1 != 0)=true:=n9e;have H:=V o true _ ((V R).trans n9e) m;clear R S o m j K3 A y q;exact P4I
 go_wp2_with fail;refine c1m (V j _ m) fun wr b1=>?_;replace m:=bthen m b1;clear b1 j u F s;obtain⟨_,u,F,s⟩:=V S _ m;rcases Decidable.em (n2=0)with rfl | q;rotate_left
 ·have d:(n2 != 0)=true:=n9e;have H:=V o true _ ((V R).trans n9e) m;clear R S o m K3 A y q;exact P4I
 go_wp2_with fail;refine(V K3 _ m).mono ?_;rintro e wr ⟨v,rfl,G,b1⟩;obtain⟨J,ab,rfl,_,_⟩:=(OpB.sk G (V S _ m).1 b1).shape;clear G;replace m:=bthen m b1;clear b1 K3 u F s;obtain⟨_,u,F,s⟩:=V S _ m;rcases Nat.eq_zero_or_pos z3.length with q | q;rotate_left
 ·have d:(0:Int)<(z3.length:Int):=f6J;have H:=V o true _ ((V R).trans n9e) m;clear R S o m A y;exact P4I
 obtain rfl:=List.eq_nil_of_length_eq_zero q;clear q;go_wp2_with fail;refine(V A _ m).mono ?_;rintro e wr ⟨v,rfl,G,b1⟩;obtain⟨J,ab,rfl,_,_⟩:=(OpB.sk G (V S _ m).1 b1).shape;clear G;replace m:=bthen m b1;clear b1 A u F s;obtain⟨_,u,F,s⟩:=V S _ m;rcases Nat.eq_zero_or_pos z4.length with q | q
 ·obtain rfl:=List.eq_nil_of_length_eq_zero q;clear q y;have R:Hid (L=(decide (b<128)||decide (a=46))):=(V R).trans M7L;by_cases C:b<128
  ·exact R5c
  have X:decide (b<128)=false:=d0f C;by_cases p:a=46
  ·subst p;exact R5c
  have d7:(a==46)=false:=b0f p;have H:=V o false _ ((V R).trans (by simp[C,p])) m;clear R S o m p;exact P4I
 have d:(0:Int)<(z4.length:Int):=f6J;go_wp2_with fail;refine c1m (V y _ m) fun wr b1=>?_;replace m:=bthen m b1;clear b1 y u F s;obtain⟨_,u,F,s⟩:=V S _ m;cases i
 ·have H:=V o true _ ((V R).trans n9e) m;clear R S o m;exact P4I
 have R:Hid (L=(decide (b<128)||decide (a=46))):=(V R).trans M7L;by_cases C:b<128
 ·exact R5c
 have X:decide (b<128)=false:=d0f C;by_cases p:a=46
 ·subst p;exact R5c
 have d7:(a==46)=false:=b0f p;have H:=V o false _ ((V R).trans (by simp[C,p])) m;clear R S o m p;go_wp2;go_ret;exact H
open Go.RowKit Go.Sort Go.Shelf
abbrev Sp:=Rec×Option Addr×Nat×Nat
def sval(x:Sp):Value:=.slice x.2.1 x.2.2.1 x.2.2.2
def encR(x:Sp):List Value:=x0C (x.1,sval x)
theorem y3U(x:Sp):(encR x).length=8:=rfl
theorem x9d(x:Sp):∀v∈encR x,v.oneCell'=true:=x7k x.1 rfl
def loOf(x y:Sp):Int:=Lib.compareInt x.1.lo y.1.lo
theorem ltLo(x y:Sp):ltOf loOf x y=decide (x.1.lo<y.1.lo):=by
 unfold ltOf loOf Lib.compareInt;by_cases Z:x.1.lo<y.1.lo
 ·simp[Z]
 ·grind
theorem swoLo:SWO (ltOf loOf):={
 irrefl:=fun x=>by rw[ltLo];exact M7L
 trans:=fun x y z Z D=>G2Z
 ntrans:=fun x y z Z D=>G2Z }
theorem z2u(x y:Sp) W:Calls prog 137 #[.agg (encR x).toArray,.agg (encR y).toArray] W fun e w'=>e=.returned (.int .i64 (loOf x y))/\∃q A,w'=grow (W.drewN q) A:=by
 have K:=O (fun W=>x2M x.1.lo y.1.lo W);have e:Lib.compareInt x.1.lo y.1.lo=loOf x y:=rfl;rw[e]at K;obtain⟨a,J,B,j⟩:=x;obtain⟨b,F,D,C⟩:=y;show Calls prog 137 #[.agg #[.int .i64 a.kind,.int .i64 a.lo,.int .i64 a.hi,.int .i64 a.n,.slice J B j,.string a.name,.string a.other,.float .f64 a.wt],.agg #[.int .i64 b.kind,.int .i64 b.lo,.int .i64 b.hi,.int .i64 b.n,.slice F D C,.string b.name,.string b.other,.float .f64 b.wt]] W _;go_enter func137,ntmps137;exact u6L
def z8M(w0:World)(xs:List Sp):Prop:=∀x∈xs,Sk .i32 w0 (sval x) x.1.to/\RecFit x.1
def Rsh(w0 w:World)(v:Value)(xs:List Sp):Prop:=w.ownsRow w0.heap.size 60 8 v xs.length (xs.flatMap encR)/\z8M w0 xs
def Rsx(w0 w:World)(v:Value)(xs:List Sp):Prop:=z8M w0 xs/\((xs=[]/\∃ao cap,v=.slice ao 0 cap/\cap<=9223372036854775807) \/
 ∃blk cap,v=.slice (some ⟨blk,0,none⟩) xs.length cap/\w0.heap.size<=blk/\blk<w.heap.size/\xs.length<=cap/\cap<=9223372036854775807/\∀i j,i<xs.length->j<8->w.cell? ⟨blk,i*8+j,none⟩=some ((encR (xs.getD i (Cn.none,none,0,0)))[j]!))
theorem y2B(xs:List Sp):xs.flatMap encR=rcells (xs.map fun x=>(x.1,sval x)):=by
 induction xs with
 | nil=>rfl
 | cons x xs ih=>rw[List.flatMap_cons,ih];rfl
theorem x9i(xs:List Sp) i j(hi:i<xs.length)(R:j<8):(xs.flatMap encR)[i*8+j]?=some ((encR (xs.getD i (Cn.none,none,0,0)))[j]!):=by
 rw[y2B,x1u _ i j w3y R];have e:(xs.map fun x=>(x.1,sval x)).getD i (Cn.none,undef)=((xs.getD i (Cn.none,none,0,0)).1,sval (xs.getD i (Cn.none,none,0,0))):=(by grind);rw[e];show(encR (xs.getD i (Cn.none,none,0,0)))[j]?=_;have S:=y3U (xs.getD i (Cn.none,none,0,0));rw[List.getElem?_eq_getElem (by rw[S];exact R),getElem!_pos _ j (by rw[S];exact R)]
theorem Rsx.keep{w0 w w' v}{xs:List Sp}(h:Rsx w0 w v xs)(L:w.heap.size<=w'.heap.size)(G:∀g,v.ownBlock=some g->w'.heap[g]?=w.heap[g]?):Rsx w0 w' v xs:=by
 refine⟨h.1,?_⟩;rcases h.2 with D | ⟨blk,A,rfl,Z,D,J,F,B⟩
 ·exact .inl D
 ·exact .inr ⟨blk,A,rfl,Z,f6J,J,F,fun i j hi R=>by rw[World.cell?_of_block (G blk rfl)];exact B i j hi R⟩
theorem Rsx.rcs{w0 w v}{xs:List Sp}(h:Rsx w0 w v xs)(y:Bw w0 w)(S:xs.length<=1000000000):Rcs w v (xs.map (·.1)):=by
 refine⟨t2Y,fun r X=>?_,?_⟩
 ·obtain⟨x,A,rfl⟩:=List.mem_map.1 X;exact(h.1 x A).2
 ·rcases h.2 with⟨rfl,J,C,rfl,I⟩ | ⟨blk,C,rfl,Z,D,G,F,B⟩
  ·exact .inl ⟨rfl,J,C,rfl,I⟩
  ·refine .inr ⟨blk,0,C,M7L,E9s,F,fun i hi=>?_⟩;rw[List.length_map]at hi;have e:(xs.map (·.1)).getD i Cn.none=(xs.getD i (Cn.none,none,0,0)).1:=(by grind);have o:xs.getD i (Cn.none,none,0,0)∈xs:=(by grind);rw[e,Nat.zero_add];exact⟨B i 0 hi f6J,B i 1 hi f6J,B i 2 hi f6J,B i 3 hi f6J,⟨_,B i 4 hi f6J,(h.1 _ o).1.below y⟩,B i 5 hi f6J,B i 6 hi f6J,B i 7 hi f6J⟩
theorem Rsh.rsx{w0 w v}{xs:List Sp}(h:Rsh w0 w v xs):Rsx w0 w v xs:=by
 refine⟨h.2,?_⟩;have Z:=h.1;rcases h.1.2 with⟨rfl,U⟩ | ⟨g,A,t,rfl,H,X,F,G,f,B⟩
 ·grind
 ·refine .inr ⟨g,A,rfl,H,(Z.lt g rfl).2,F,V3H,fun i j hi R=>?_⟩;have e:=Z.cells (g:=g) rfl (i*8+j) _ (x9i xs i j hi R);rw[addr_add,Nat.zero_add]at e;exact e
theorem Rsh.holds[Inhabited Rec]{w0 w}{xs:List Sp}{g cap}(h:Rsh w0 w (.slice (some ⟨g,0,none⟩) xs.length cap) xs):HoldsK encR 8 w g 0 xs.toArray:=by
 intro j R;rw[size_flatK]at R;have W:j<xs.length*8:=s4P;rw[get_flatK _ _ _ _ R];have hd:j / 8<xs.length:=f6J
 have e:=h.1.cells (g:=g) rfl j _ (by
  have:=x9i xs (j / 8) (j%8) hd f6J;rw[(f6J:j / 8*8+j%8=j)]at this
  exact this)
 rw[addr_add,Nat.zero_add]at e;have C:xs.toArray[j / 8]! = xs.getD (j / 8) (Cn.none,none,0,0):=(by grind);rw[C,Nat.zero_add];refine⟨e,?_⟩;rcases h.1.2 with⟨N,_⟩ | ⟨S,A,t,N,_,X,_⟩
 ·simp at N
 ·exact g6k
theorem y6N[Inhabited Rec]{w:World}{blk n}{d:Array Sp}{s:Array Obj}:w.grownBy (sortWorldK encR 8 w blk 0 n d s) (some blk):=by
 refine⟨rfl,rfl,rfl,?_,fun k G y=>?_⟩
 ·show w.heap.size<=((putRowK encR 8 (Sort.ahead w n) blk 0 d).heap++s).size;rw[Array.size_append];have:(putRowK encR 8 (Sort.ahead w n) blk 0 d).heap.size=w.heap.size:=r2O;omega
 ·show((putRowK encR 8 (Sort.ahead w n) blk 0 d).heap++s)[k]?=_;have L:(putRowK encR 8 (Sort.ahead w n) blk 0 d).heap.size=w.heap.size:=r2O;exact V4f
theorem z7a p cap fv w:Calls prog 227 #[.slice p 0 cap,.int .i64 0,.int .i64 0,fv] w fun e w'=>e=.returned (.tuple #[])/\w'=w:=by
 go_enter func227,ntmps227;exact f0B
theorem z7H p cap lim fv w:Calls prog 181 #[.slice p 0 cap,.int .i64 0,.int .i64 0,.int .i64 lim,fv] w fun e w'=>e=.returned (.tuple #[])/\w'=w:=by
 have hi:=fun W=>z7a p cap fv W;go_enter func181,ntmps181;go_wp2;refine wp_loop_rounds 1 ?_;rw[rounds_succ];go_wp2_with(go_at_call 227;refine(hi _).mono ?_;rintro e w' ⟨rfl,rfl⟩)
 exact m8y
theorem z4q p cap fv w:Calls prog 136 #[.slice p 0 cap,fv] w fun e w'=>e=.returned (.tuple #[])/\w'=w:=by
 have S:∀W,Calls prog 182 #[.int .u64 0] W fun e w'=>e=.returned (.int .i64 0)/\w'=W:=fun W =>
  Any.bits_Len (SlLaysF0.n15.bits (P:=prog) (ρ:=Tryz.lays136_ren) { Tryz.lays136 with }) 0 W f6J f6J
 have s:=fun A W=>z7H p cap A fv W;go_enter func136,ntmps136;go_wp2_with(first| (go_at_call 182;refine(S _).mono ?_;rintro e w' ⟨rfl,rfl⟩)|(go_at_call 181;refine(s _ _).mono ?_;rintro e w' ⟨rfl,rfl⟩));go_end0;exact⟨rfl,rfl⟩
def SortB(w0 w:World)(v:Value)(xs:List Sp)(e:Ending)(w':World):Prop:=e=.returned (.tuple #[])/\∃xs':List Sp,xs'.Perm xs/\(xs'.Pairwise fun a b=>a.1.lo<=b.1.lo)/\Rsx w0 w' v xs'/\w.grownBy w' v.ownBlock
theorem y4H w0 w v(xs:List Sp)(h:Rsh w0 w v xs)(S:xs.length<=1000000000):Calls prog 136 #[v,.func (.func 137) #[] #[]] w (SortB w0 w v xs):=by
 have p:Inhabited Rec:=⟨Cn.none⟩;rcases h.1.2 with⟨rfl,U⟩ | ⟨g,B,t,rfl,H,X,F,G,f,a⟩
 ·obtain rfl:xs=[]:=List.eq_nil_of_length_eq_zero U;refine(z4q none 0 _ w).mono ?_;rintro e C ⟨rfl,rfl⟩;exact⟨rfl,[],List.Perm.refl _,.nil,h.rsx,⟨rfl,rfl,rfl,l0r _,fun _ _ _=>rfl⟩⟩
 ·have N:=(h.1.lt g rfl).2;have u:=h.holds;have D:∀o w,(callFunc 137 o).run prog w=.ok (.enter 137 o) w:=enters_of func137 f4A rfl;have Y:CmpLays prog 137 #[] encR 8 loOf g 0 xs.toArray.size w:=fun _ _ _ _ x y=>z2u x y _;have m:∀w,(isAgg 60).run prog w=.ok true w:=Tryz.isAgg60;have q:∀w,(Go.sizeOf 60).run prog w=.ok 8 w:=Tryz.sizeOf60;have K:=AnyQ.slices_SortFunc Tryz.lays136 8 m q encR y3U x9d loOf swoLo 137 #[] g 0 B xs.toArray w D Y u N P8P;change Calls prog 136 #[.slice (some ⟨g,0,none⟩) xs.length B,_] w _ at K;refine K.mono ?_;rintro e C ⟨rfl,J,n,s,⟨W,_,d⟩,L,rfl⟩;have b:J.size=xs.length:=by simpa using W
  have Q:J.toList.Perm xs:=by
   have P:J.extract 0 xs.toArray.size=J:=(by grind);rw[P]at d;exact V6s
  have Z:SWK encR 8 w g 0 J (sortWorldK encR 8 w g 0 n J s):=⟨n,s,rfl⟩;have l:=Z.holds N u W;refine⟨rfl,J.toList,Q,?_,⟨fun x A=>h.2 x (Q.mem_iff.1 A),.inr ⟨g,B,by rw[show J.toList.length=xs.length by simpa using b],H,Z.lt N,by rw[Array.length_toList,b];exact F,by unfold maxLen at G;exact f6J,fun i j hi R=>?_⟩⟩,y6N⟩
  ·rw[List.pairwise_iff_getElem];intro i j hi R I;have:=L i j (Nat.zero_le _) I (by simp at R ⊢;exact f6J);rw[ltLo,decide_eq_false_iff_not]at this;exact s7A
  ·rw[Array.length_toList]at hi;have:=(l.cell (i:=i) (c:=j) hi R).1;rw[Nat.zero_add]at this;rw[this,getElem!_pos J i hi];simp[List.getD,hi]
open Go.RowKit Go.MapKept Go.WideMaps
open Go.ChangeMaps (setBlock)
theorem pairLaw2:KeyLaw prog 222:=deep_law_laid x6e (m:=3) e8N (o0d f4x) f4x f4x
def pk2(a b:Int):Value:=.agg #[.int .i32 a,.int .i32 b]
theorem y3N:prog.cellsOf 222=2:=f4x
theorem y7Q:prog.cellsOf 21=1:=f4x
theorem y5R:prog.keyType 222=true:=f4x
theorem x3f{a}(h:Rune a) D:prog.keyLits (D+1) 21 [.int .i32 a]=some [.int .i32 a]:=by
 rw[Program.keyLits.eq_def];simp only[underlying21]
 have y:(Lit.int .i32 a).wf=true:=by
  unfold Rune at h;exact w7O
 rw[if_pos ⟨trivial,y⟩]
theorem y2M{a b}(A:Rune a)(Y:Rune b) D:prog.keyLits (D+2) 222 [.int .i32 a,.int .i32 b]=some [.int .i32 a,.int .i32 b]:=by
 rw[Program.keyLits.eq_def];simp only[underlying222,y3N,y7Q];rw[if_pos (show[Value.int .i32 a,Value.int .i32 b].length=2 from rfl)];have e:List.range 2=[0,1]:=rfl;rw[e];simp[List.mapM_cons,x3f A D,x3f Y D]
theorem y2W{a b}(A:Rune a)(Y:Rune b):∃l,keyOf prog 222 (pk2 a b)=some l:=by
 have C:(pk2 a b).formed prog 222=true:=by
  simp[pk2,Value.formed,underlying222,y3N]
 obtain⟨n,F⟩:∃n,prog.types.size+1=n+2:=⟨prog.types.size-1,m4z⟩;refine⟨.string (keyBytes [.int .i32 a,.int .i32 b]),?_⟩;unfold keyOf;simp only[underlying222,y5R,C,Bool.and_self,if_true,F];show(prog.keyLits (n+2) 222 [.int .i32 a,.int .i32 b]).map _=_;rw[y2M A Y n];rfl
theorem z0v{a b a' b'}(h:pk2 a b=pk2 a' b'):a=a'/\b=b':=by
 unfold pk2 at h;exact S4r
structure PObj(es:Array MapEntry)(clock:Nat)(c:Int->Int->Option Int):Prop where
 st:Stamped es clock
 keys:∀x∈es.toList,∃a b n,x.key=pk2 a b/\x.val=.int .i64 n/\c a b=some n/\Rune a/\Rune b
 none:∀a b,(∀x∈es.toList,x.key≠pk2 a b)->c a b=none
def PAt(w:World)(r:Nat)(c:Int->Int->Option Int):Prop:=∃es clock,w.heap[r]?=some (.map es clock)/\PObj es clock c
theorem PObj.ks{p:Array MapEntry}{clock}{c:Int->Int->Option Int}(h:PObj p clock c):∀x∈p.toList,∃l,keyOf prog 222 x.key=some l:=fun x A=>by
 obtain⟨a,b,n,e,_,_,B,Y⟩:=h.keys x A;rw[e];exact y2W B Y
theorem q0y:PObj #[] 0 (fun _ _=>none):=⟨⟨fun x A=>by simp at A,M7K,M7K⟩,fun x A=>by simp at A,fun _ _ _=>rfl⟩
theorem look_ok{w r}{c:Int->Int->Option Int}(h:PAt w r c){a b}(C:Rune a)(t:Rune b) :
  (Instr.lookup 166 (.map (some r)) (pk2 a b) true).run prog w=.ok (.tuple #[.int .i64 ((c a b).getD 0),.bool (c a b).isSome]) w/\(Instr.lookup 166 (.map (some r)) (pk2 a b) false).run prog w=.ok (.int .i64 ((c a b).getD 0)) w:=by
 obtain⟨p,clock,Y,h⟩:=h;obtain⟨l,S⟩:=y2W C t;rcases pairLaw2.find w S p.toList h.ks with⟨Z,D⟩ | ⟨j,B,Z,D,J⟩
 ·rw[h.none a b D];refine⟨?_,?_⟩
  ·exact P5t
  ·exact P5t
 ·obtain⟨X,L,n,P,A,N,_,_⟩:=h.keys B (List.mem_of_getElem? D);obtain⟨rfl,rfl⟩:=z0v (P.symm.trans J);rw[N];refine⟨?_,?_⟩
  ·exact v0l
  ·exact v0l
def setP(c:Int->Int->Option Int)(a b n:Int):Int->Int->Option Int:=fun x y=>if x=a/\y=b then some n else c x y
theorem y6G{w r}{c:Int->Int->Option Int}(h:PAt w r c){a b}(G:Rune a)(t:Rune b)(F:c a b=none) n :
  ∃C q,(Instr.mapUpdate 166 (.map (some r)) (pk2 a b) (.int .i64 n)).run prog w=.ok () (setBlock w r (.map C q))/\PObj C q (setP c a b n):=by
 obtain⟨p,clock,Y,h⟩:=h;obtain⟨l,S⟩:=y2W G t;rcases pairLaw2.find w S p.toList h.ks with⟨Z,D⟩ | ⟨j,H,Z,D,J⟩
 ·refine⟨p.push ⟨pk2 a b,.int .i64 n,clock⟩,clock+1,?_,⟨stamped_push h.st D,fun x A=>?_,fun X L I=>?_⟩⟩
  ·simp[Instr.mapUpdate,run_underlying underlying166,MapKept.run_getObj_map Y,pairLaw2.check w false S,Z,MapKept.run_setObj_map _ Y,Result.andThen,setBlock]
  ·simp only[Array.toList_push,List.mem_append,List.mem_singleton]at A;rcases A with A | rfl
   ·obtain⟨X,L,m,P,B,N,o⟩:=h.keys x A;refine⟨X,L,m,P,B,?_,o⟩;unfold setP;rw[if_neg,N];rintro⟨rfl,rfl⟩;rw[F]at N;cases N
   ·exact⟨a,b,n,rfl,rfl,by unfold setP;rw[if_pos ⟨rfl,rfl⟩],G,t⟩
  ·unfold setP;rw[if_neg]
   ·exact h.none X L fun x A=>I x f9v
   ·rintro⟨rfl,rfl⟩;exact I ⟨pk2 X L,.int .i64 n,clock⟩ M7K rfl
 ·obtain⟨X,L,m,P,B,N,_,_⟩:=h.keys H (List.mem_of_getElem? D);obtain⟨rfl,rfl⟩:=z0v (P.symm.trans J);rw[F]at N;cases N
theorem x8A r vt w(N:Sk .i32 w vt r.to)(D:r.to.length=2):Calls prog 135 #[recV r vt] w fun e w'=>e=.returned (pk2 (r.to.getD 0 0) (r.to.getD 1 0))/\Bw w w':=by
 obtain⟨b,P,J,rfl,_,I,y⟩:=N.place f6J;have R:=y 0 f6J;have F:=y 1 f6J;rw[Nat.add_zero]at R;have H:=x0a R;have A:∀W,Bw w W->W.cell? ⟨b,P,none⟩=some (.int .i32 (r.to.getD 0 0)):=fun W h=>(by rw[h.cell H];exact R);have B:∀W,Bw w W->W.cell? ⟨b,P+1,none⟩=some (.int .i32 (r.to.getD 1 0)):=fun W h=>(by rw[h.cell H];exact F);have m:Bw w ((w.alloc (.cells #[.int .i64 r.kind,.int .i64 r.lo,.int .i64 r.hi,.int .i64 r.n,.slice (some ⟨b,P,none⟩) 2 J,.string r.name,.string r.other,.float .f64 r.wt] 60)).alloc (.cells #[.int .i32 0,.int .i32 0] 222)):=((b0r).alloc (l0r _) _).alloc M7M _;have o:=A _ m;have C:=B _ m;rw[D];unfold recV pk2;generalize r.to.getD 0 0=p,r.to.getD 1 0=q at *;go_enter func135,ntmps135;go_wp2;go_region;go_wp2;go_returns;exact⟨rfl,(((b0r).alloc (l0r _) _).alloc M7M _).trans ((x0i ⟨1,rfl⟩).mono P8P)⟩
open Go.RowKit Go.MapKept Go.WideMaps
open Go.ChangeMaps (setBlock)
structure KL(T:TypeId)(K:Value->Prop):Prop where
 check:∀(w:World) (em:Bool) (v:Value),K v->(Instr.checkKey em 10000 T v).run prog w=.ok () w
 find:∀(w:World) (x:Value),K x->∀es:List MapEntry,(∀e∈es,K e.key)->((Instr.findKey T x es).run prog w=.ok none w/\∀e∈es,e.key≠x)\/∃j e,(Instr.findKey T x es).run prog w=.ok (some (j,e.val)) w/\es[j]?=some e/\e.key=x
 stays:∀(w:World) (v:Value),K v->(Instr.keyThatStays v v).run prog w=.ok v w
theorem KL.of{T}{K:Value->Prop}(h:KeyLaw prog T)(G:∀v,K v->∃l,keyOf prog T v=some l):KL T K :=
 ⟨fun w C v N=>by obtain⟨l,S⟩:=G v N;exact h.check w C S,fun w x A p B=>by obtain⟨l,S⟩:=G x A;exact h.find w S p (fun e s=>G _ (B e s)),fun w v N=>by obtain⟨l,S⟩:=G v N;exact h.stays w S⟩
structure GObj(K:Value->Prop)(es:Array MapEntry)(clock:Nat)(c:Value->Option Value):Prop where
 st:Stamped es clock
 keys:∀x∈es.toList,K x.key/\c x.key=some x.val
 none:∀k,(∀x∈es.toList,x.key≠k)->c k=none
def GAt(K:Value->Prop)(w:World)(r:Nat)(c:Value->Option Value):Prop:=∃es clock,w.heap[r]?=some (.map es clock)/\GObj K es clock c
theorem y8X(K:Value->Prop)(c:Value->Option Value)(h:∀k,c k=none):GObj K #[] 0 c:=⟨stamped_empty 0,fun x A=>by simp at A,fun k _=>h k⟩
section
variable {T M E:TypeId} {K:Value->Prop} {c c':Value->Option Value} {w:World} {r:Nat} {k z v:Value}
theorem z4X(L:KL T K)(B:prog.underlying M=some (.map T E))(u:∀w,(zeroValue E).run prog w=.ok z w)(h:GAt K w r c)(G:K k) :
  (Instr.lookup M (.map (some r)) k true).run prog w=.ok (.tuple #[(c k).getD z,.bool (c k).isSome]) w/\(Instr.lookup M (.map (some r)) k false).run prog w=.ok ((c k).getD z) w:=by
 obtain⟨p,clock,Y,h⟩:=h;rcases L.find w k G p.toList (fun e s=>(h.keys e s).1)with⟨Z,D⟩ | ⟨j,A,Z,D,J⟩
 ·rw[h.none k D];refine⟨?_,?_⟩
  ·exact P0n
  ·exact P0n
 ·have P:=(h.keys A (List.mem_of_getElem? D)).2;rw[J]at P;rw[P];refine⟨?_,?_⟩
  ·exact T7Q
  ·exact T7Q
theorem x9k(L:KL T K)(B:prog.underlying M=some (.map T E))(h:GAt K w r c)(G:K k)(Z:c' k=some v)(D:∀x,x≠k->c' x=c x) :
  ∃C q,(Instr.mapUpdate M (.map (some r)) k v).run prog w=.ok () (setBlock w r (.map C q))/\GObj K C q c':=by
 obtain⟨p,clock,Y,h⟩:=h;rcases L.find w k G p.toList (fun e s=>(h.keys e s).1)with⟨S,Q⟩ | ⟨j,W,S,Q,R⟩
 ·refine⟨p.push ⟨k,v,clock⟩,clock+1,?_,⟨stamped_push h.st Q,fun x A=>?_,fun x F=>?_⟩⟩
  ·simp[Instr.mapUpdate,run_underlying B,MapKept.run_getObj_map Y,L.check w false _ G,S,MapKept.run_setObj_map _ Y,Result.andThen,setBlock]
  ·simp only[Array.toList_push,List.mem_append,List.mem_singleton]at A;rcases A with A | rfl
   ·refine⟨(h.keys x A).1,?_⟩;rw[D _ (Q x A)];exact(h.keys x A).2
   ·exact⟨G,Z⟩
  ·have H:x≠k:=fun e=>F ⟨k,v,clock⟩ M7K e.symm;rw[D x H];exact h.none x fun y g=>F y P1e
 ·have J:p[j]?=some W:=(by simpa using Q);have d:j<p.size:=(Array.getElem?_eq_some_iff.1 J).1;refine⟨p.modify j fun e=>{ e with key:=k,val:=v },clock,?_,⟨stamped_modify h.st j _ (fun _ _=>rfl) (fun e _ s=>?_),fun x A=>?_,fun x F=>?_⟩⟩
  ·simp[Instr.mapUpdate,run_underlying B,MapKept.run_getObj_map Y,L.check w false _ G,S,J,R,L.stays w _ G,MapKept.run_setObj_map _ Y,Result.andThen,setBlock]
  ·rw[J]at s;cases s;exact R.symm
  ·obtain⟨i,hi⟩:=List.getElem?_of_mem A;rw[Array.getElem?_toList,Array.getElem?_modify]at hi;by_cases I:j=i
   ·grind
   ·rw[if_neg I]at hi;have o:x∈p.toList:=List.mem_of_getElem? (by rw[Array.getElem?_toList];exact hi)
    have H:x.key≠k:=fun e=>by
     have N:=h.st.2.2;have P:(p.toList.map (·.key))[i]?=some k:=(by rw[List.getElem?_map,Array.getElem?_toList,hi,Option.map_some,e]);have X:(p.toList.map (·.key))[j]?=some k:=(by rw[List.getElem?_map,Array.getElem?_toList,J,Option.map_some,R]);have U:i<(p.toList.map (·.key)).length:=(List.getElem?_eq_some_iff.1 P).1;exact I ((List.getElem?_inj U N).1 (P.trans X.symm)).symm
    rw[D _ H];exact h.keys x o
  ·have H:x≠k:=fun e=>by
    have f:(⟨k,v,W.born⟩:MapEntry)∈(p.modify j fun e=>{ e with key:=k,val:=v }).toList:=by
     refine List.mem_of_getElem? (i:=j) ?_;rw[Array.getElem?_toList,Array.getElem?_modify,if_pos rfl,J];rfl
    exact F _ f e.symm
   rw[D x H];refine h.none x fun y g=>?_;obtain⟨i,hi⟩:=List.getElem?_of_mem g;rw[Array.getElem?_toList]at hi;by_cases I:j=i
   ·subst I;rw[J]at hi;cases hi;rw[R];exact fun e=>H e.symm
   ·refine F y (List.mem_of_getElem? (i:=i) ?_);rw[Array.getElem?_toList,Array.getElem?_modify,if_neg I];exact hi
end
namespace Cn
def isP(a b:Int)(r:Rec):Bool:=decide (r.kind=7/\r.to.getD 0 0=a/\r.to.getD 1 0=b)
def firstP(l:List Rec)(a b:Int):Option Int:=(l.findIdx? (isP a b)).map Int.ofNat
theorem x3C l r a b:firstP (l++[r]) a b=(firstP l a b).or (if isP a b r then some (l.length:Int)else Option.none):=by
 unfold firstP;rw[List.findIdx?_append]
 cases h:l.findIdx? (isP a b)with
 | some n=>simp
 | none=>grind
theorem x2O{l r}(h:r.kind≠7):firstP (l++[r])=firstP l:=by
 funext a b;rw[x3C,show isP a b r=false by unfold isP;exact d0f (fun q=>h q.1)];simp
theorem y0L{l r}(G:(firstP l (r.to.getD 0 0) (r.to.getD 1 0)).isSome=true):firstP (l++[r])=firstP l:=by
 funext a b;rw[x3C];by_cases h:isP a b r=true
 ·obtain⟨_,rfl,rfl⟩:=o0d h;obtain⟨n,F⟩:=Option.isSome_iff_exists.1 G;rw[F];rfl
 ·rw[if_neg h];simp
theorem y5F{l r}(y:r.kind=7)(G:firstP l (r.to.getD 0 0) (r.to.getD 1 0)=Option.none):firstP (l++[r])=setP (firstP l) (r.to.getD 0 0) (r.to.getD 1 0) (l.length:Int):=by
 funext a b;rw[x3C];unfold setP;by_cases h:a=r.to.getD 0 0/\b=r.to.getD 1 0
 ·obtain⟨rfl,rfl⟩:=h;rw[G,show isP (r.to.getD 0 0) (r.to.getD 1 0) r=true from d0t ⟨y,rfl,rfl⟩];simp
 ·rw[if_neg h,show isP a b r=false from d0f (fun q=>h ⟨q.2.1.symm,q.2.2.symm⟩)];simp
theorem y8K{l i}(hi:i<l.length)(y:(l.getD i none).kind=7):((firstP l ((l.getD i none).to.getD 0 0) ((l.getD i none).to.getD 1 0)).getD 0<(i:Int))↔((l.take i).any fun k=>decide (k.kind=7/\k.to.getD 0 0=(l.getD i none).to.getD 0 0/\k.to.getD 1 0=(l.getD i none).to.getD 1 0))=true:=by
 have D:l.getD i none=l[i]:=getD_at hi
 have s:isP ((l.getD i none).to.getD 0 0) ((l.getD i none).to.getD 1 0) l[i]=true:=by
  rw[D]at y ⊢;exact d0t ⟨y,rfl,rfl⟩
 generalize(l.getD i none).to.getD 0 0=a,(l.getD i none).to.getD 1 0=b at *;have C:((l.take i).any fun k=>decide (k.kind=7/\k.to.getD 0 0=a/\k.to.getD 1 0=b))=(l.take i).any (isP a b):=rfl;rw[C];unfold firstP
 cases hf:l.findIdx? (isP a b)with
 | none=>grind
 | some n =>
  obtain⟨F,t,I⟩:=List.findIdx?_eq_some_iff_getElem.1 hf;simp only[Option.map_some,Option.getD_some,List.any_eq_true];constructor
  ·intro h;have H:n<i:=(by grind);exact⟨l[n],List.mem_take_iff_getElem.2 ⟨n,f6J,rfl⟩,t⟩
  ·rintro⟨x,A,G⟩;obtain⟨j,R,rfl⟩:=List.mem_take_iff_getElem.1 A;have B:n<=j:=(by grind);show(Int.ofNat n)<(i:Int);have:(Int.ofNat n)=(n:Int):=rfl;omega
end Cn
open Go.ChangeMaps (setBlock)
structure NI(w0 W:World)(c:Int->Int->Option Int)(cv ov:Value)(cxs oxs:List Sp):Prop where
 hr:W.heap[w0.heap.size]?=some (.cells #[.slice none 0 0,.slice none 0 0,.map none] 168 (0,0))
 hm:PAt W (w0.heap.size+1) c
 hx:W.heap[w0.heap.size+2]?=some (.cells #[cv,ov,.map (some (w0.heap.size+1))] 168 (0,0))
 hc:Rsh w0 W cv cxs
 ho:Rsh w0 W ov oxs
 ap:∀g,cv.ownBlock=some g->ov.ownBlock≠some g
 bel:Below w0.heap.size w0 W
theorem x0G{W:World}{g o}(h:W.heap[g]?=some o):g<W.heap.size:=by grind
theorem Rsh.keep{w0 W W' v}{xs:List Sp}(h:Rsh w0 W v xs)(G:∀g,v.ownBlock=some g->W'.heap[g]?=W.heap[g]?):Rsh w0 W' v xs:=⟨x0y h.1 G,h.2⟩
theorem NI.below{w0 W W'}{c:Int->Int->Option Int}{cv ov}{F C:List Sp}(h:NI w0 W c cv ov F C)(Y:Bw W W'):NI w0 W' c cv ov F C:=by
 obtain⟨p,i,a,R⟩:=h.hm
 exact⟨by rw[Y.block _ (x0G h.hr)];exact h.hr,⟨p,i,by rw[Y.block _ (x0G a)];exact a,R⟩,by rw[Y.block _ (x0G h.hx)];exact h.hx,
  h.hc.keep fun g H=>Y.block g (h.hc.1.lt g H).2,h.ho.keep fun g H=>Y.block g (h.ho.1.lt g H).2,h.ap,bthen h.bel Y⟩
theorem z7V{w0 W v}{xs:List Sp}(h:Rsh w0 W v xs){g}(H:v.ownBlock=some g):∃t,W.heap[g]?=some (.cells t 60 (0,0)):=by
 rcases h.1.2 with⟨rfl,_⟩ | ⟨k,A,t,rfl,_,X,_⟩
 ·cases H
 ·exact N2O
theorem NI.far{w0 W}{c:Int->Int->Option Int}{cv ov v}{F C xs:List Sp}(h:NI w0 W c cv ov F C)(N:Rsh w0 W v xs):∀g,v.ownBlock=some g->g≠w0.heap.size/\g≠w0.heap.size+1/\g≠w0.heap.size+2:=by
 intro g H;obtain⟨t,d⟩:=z7V N H;refine⟨fun e=>?_,fun e=>?_,fun e=>?_⟩
 ·rw[e,h.hr]at d;simp at d
 ·obtain⟨p,i,a,_⟩:=h.hm;rw[e,a]at d;simp at d
 ·rw[e,h.hx]at d;simp at d
theorem NI.classes{w0 W w1}{c:Int->Int->Option Int}{cv ov v'}{F C:List Sp}{o}{x:Sp}(h:NI w0 W c cv ov F C)(A:Sk .i32 w0 (sval x) x.1.to/\RecFit x.1)
  (l:w1.ownsRow w0.heap.size 60 8 v' (F.length+1) (F.flatMap encR++encR x)) (H:(W.alloc o).grownBy w1 cv.ownBlock) (U:v'.ownBlock=cv.ownBlock\/v'.ownBlock=some (W.heap.size+1)) :
  w1.heap[w0.heap.size+2]?=some (.cells #[cv,ov,.map (some (w0.heap.size+1))] 168 (0,0))/\NI w0 (w1.setCell ⟨w0.heap.size+2,0,none⟩ v') c v' ov (F++[x]) C:=by
 have J:∀g,g<W.heap.size->(W.alloc o).heap[g]?=W.heap[g]?:=fun g H=>((Below.refl W.heap.size W).alloc (l0r _) _).block g H
 have L:∀g,g<W.heap.size->cv.ownBlock≠some g->w1.heap[g]?=W.heap[g]?:=fun g Z D=>by
  rw[H.block g P8P (fun e=>D e.symm),J g Z]
 have B:=h.far h.hc;have t:w1.heap[w0.heap.size+2]?=some (.cells #[cv,ov,.map (some (w0.heap.size+1))] 168 (0,0)):=S1f
 have X:Rsh w0 w1 v' (F++[x]):=⟨by simpa using l,fun y hy=>by
  rcases List.mem_append.1 hy with hy | hy
  ·exact h.hc.2 y hy
  ·simp only[List.mem_singleton]at hy
   subst hy;exact A⟩
 have hold:∀g,v'.ownBlock=some g->g≠w0.heap.size+2/\ov.ownBlock≠some g:=fun g Q=>by
  rcases U with e | e
  ·rw[e]at Q;exact⟨(B g Q).2.2,h.ap g Q⟩
  ·rw[e]at Q;simp at Q;have u:=x0G h.hx;refine⟨f6J,fun I=>?_⟩;have:=(h.ho.1.lt g I).2;omega
 obtain⟨p,i,a,R⟩:=h.hm;refine⟨t,⟨?_,⟨p,i,?_,R⟩,?_,?_,?_,fun g Q=>(hold g Q).2,?_⟩⟩
 ·exact m0Y
 ·exact R2k
 ·rw[x0c t];rfl
 ·exact X.keep fun g Q=>by rw[x0e _ (hold g Q).1]
 ·refine h.ho.keep fun g Q=>?_;rw[x0e _ (h.far h.ho g Q).2.2,L g (h.ho.1.lt g Q).2 (fun e=>h.ap g e Q)]
 ·have b1:Bw w0 w1:=(h.bel.alloc h.bel.size o).grown H (by have:=h.bel.size;exact P8P) (fun k G=>(h.hc.1.lt k G).1);exact x0b b1 f6J v'
theorem NI.opens{w0 W w1}{c:Int->Int->Option Int}{cv ov v'}{F C:List Sp}{o}{x:Sp}(h:NI w0 W c cv ov F C)(A:Sk .i32 w0 (sval x) x.1.to/\RecFit x.1)
  (l:w1.ownsRow w0.heap.size 60 8 v' (C.length+1) (C.flatMap encR++encR x)) (H:(W.alloc o).grownBy w1 ov.ownBlock) (U:v'.ownBlock=ov.ownBlock\/v'.ownBlock=some (W.heap.size+1)) :
  w1.heap[w0.heap.size+2]?=some (.cells #[cv,ov,.map (some (w0.heap.size+1))] 168 (0,0))/\NI w0 (w1.setCell ⟨w0.heap.size+2,1,none⟩ v') c cv v' F (C++[x]):=by
 have J:∀g,g<W.heap.size->(W.alloc o).heap[g]?=W.heap[g]?:=fun g H=>((Below.refl W.heap.size W).alloc (l0r _) _).block g H
 have L:∀g,g<W.heap.size->ov.ownBlock≠some g->w1.heap[g]?=W.heap[g]?:=fun g Z D=>by
  rw[H.block g P8P (fun e=>D e.symm),J g Z]
 have B:=h.far h.ho;have t:w1.heap[w0.heap.size+2]?=some (.cells #[cv,ov,.map (some (w0.heap.size+1))] 168 (0,0)):=S1f
 have X:Rsh w0 w1 v' (C++[x]):=⟨by simpa using l,fun y hy=>by
  rcases List.mem_append.1 hy with hy | hy
  ·exact h.ho.2 y hy
  ·simp only[List.mem_singleton]at hy
   subst hy;exact A⟩
 have hold:∀g,v'.ownBlock=some g->g≠w0.heap.size+2/\cv.ownBlock≠some g:=fun g Q=>by
  rcases U with e | e
  ·rw[e]at Q;exact⟨(B g Q).2.2,fun I=>h.ap g I Q⟩
  ·rw[e]at Q;simp at Q;have u:=x0G h.hx;refine⟨f6J,fun I=>?_⟩;have:=(h.hc.1.lt g I).2;omega
 obtain⟨p,i,a,R⟩:=h.hm;refine⟨t,⟨?_,⟨p,i,?_,R⟩,?_,?_,?_,fun g Z D=>(hold g D).2 Z,?_⟩⟩
 ·exact m0Y
 ·exact R2k
 ·rw[x0c t];rfl
 ·refine h.hc.keep fun g Q=>?_;rw[x0e _ (h.far h.hc g Q).2.2,L g (h.hc.1.lt g Q).2 (fun e=>h.ap g Q e)]
 ·exact X.keep fun g Q=>by rw[x0e _ (hold g Q).1]
 ·have b1:Bw w0 w1:=(h.bel.alloc h.bel.size o).grown H (by have:=h.bel.size;exact P8P) (fun k G=>(h.ho.1.lt k G).1);exact x0b b1 f6J v'
theorem NI.upd{w0 W}{c c':Int->Int->Option Int}{cv ov}{F C:List Sp}{p:Array MapEntry}{cl}(h:NI w0 W c cv ov F C)(R:PObj p cl c'):NI w0 (setBlock W (w0.heap.size+1) (.map p cl)) c' cv ov F C:=by
 obtain⟨B,A,a,_⟩:=h.hm;have D:=x0G a;refine⟨by rw[x1D _ _ f6J];exact h.hr,⟨p,cl,y3l _ _ _ D,R⟩,by rw[x1D _ _ f6J];exact h.hx,?_,?_,h.ap,?_⟩
 ·exact h.hc.keep fun g H=>x1D _ _ (h.far h.hc g H).2.1
 ·exact h.ho.keep fun g H=>x1D _ _ (h.far h.ho g H).2.1
 ·exact h.bel.trans (x4D _ W _ _ f6J)
namespace Cn
theorem y8D{k}(h:fam k=2):k=6:=by
 revert h;exact r2C
theorem fam_three'{k}(h:fam k=3):k=7\/k=8:=by
 revert h;exact r2C
def y7c(a b:Rec):Prop:=right a=0/\right b=0/\clash a b=false
theorem x3x{f}(C:f=2\/f=3){l cs}{p:Rec->Bool}(S:(check6 l).2=0)(s:∀r,p r=true↔fam r.kind=f)(Q:cs.Perm (l.filter p))(L:cs.Pairwise fun a b=>a.lo<=b.lo):x1w f cs/\∀r,r∈cs↔r∈l/\fam r.kind=f:=by
 obtain⟨_,X,I⟩:=x0k.1 S;have o:∀r,r∈cs↔r∈l/\fam r.kind=f:=fun r=>(by rw[Q.mem_iff,List.mem_filter,s]);have Z:l.Pairwise y7c:=I.imp_of_mem fun{a b} ha hb h=>⟨X a ha,X b hb,h⟩;have D:(l.filter p).Pairwise y7c:=Z.filter p;have J:cs.Pairwise y7c:=(Q.pairwise_iff (fun{x y} ⟨a,b,c⟩=>⟨b,a,z2A a b c⟩)).2 D;exact⟨y6l C (fun r A=>⟨X r ((o r).1 A).1,((o r).1 A).2⟩) (J.imp fun⟨_,_,c⟩=>c) L,o⟩
end Cn
