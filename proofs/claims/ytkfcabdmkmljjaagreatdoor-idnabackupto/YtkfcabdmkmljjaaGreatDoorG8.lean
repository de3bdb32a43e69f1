/- Lemmas. -/
import Derived.Test.YtkfcabdmkmljjaaGreatDoorG9
import Derived.Shelf.SlSortCmp.WholeK
import Derived.Test.YtkfcabdmkmljjaaGreatDoorG12
set_option maxHeartbeats 8000000
set_option maxRecDepth 8000
namespace Go.Proofs.YtkfcabdmkmljjaaGreatDoor
open Go.Proofs.Tryz
open Go.RowKit
section
variable{p:Prop}
theorem u6L(h:p:=by go_wp2_with fail;refine(V K _).mono ?_;rintro e Q ⟨rfl,rfl⟩;go_wp2;go_ret;exact⟨rfl,0,_,by rw[alloc_eq_grow,alloc_eq_grow,grow_grow];rfl⟩):p:=h
theorem e0U(h:p:=by simp[Instr.lookup,run_underlying underlying166,MapKept.run_getObj_map Y,pairLaw2.check w _ S,Z,Result.andThen,C]):p:=h
theorem w1t(h:p:=by simp[Instr.lookup,run_underlying I,MapKept.run_getObj_map Y,L.check w _ _ G,Z,Result.andThen,A]):p:=h
theorem f0B(h:p:=by go_wp2;refine wp_loop_rounds 1 ?_;rw[rounds_succ];go_wp2;go_end0;exact g9S):p:=h
theorem r2O(h:p:=by unfold putRowK;rw[size_putRow];rfl):p:=h
theorem P5t(h:p:=by simp[Instr.lookup,run_underlying underlying166,MapKept.run_getObj_map Y,pairLaw2.check w _ S,Z,Result.andThen]):p:=h
theorem m8y(h:p:=by
 (try simp only[Exit.inBlock,Exit.then]);refine bodyPost_ret (results_none rfl _ _ _) rfl ?_
 exact g9S):p:=h
theorem i5H(h:p:=by simp[Instr.lookup,run_underlying I,MapKept.run_getObj_map Y,L.check w _ _ G,Z,Result.andThen]):p:=h
theorem V4f(h:p:=by rw[Array.getElem?_append_left f6J];show(w.heap.modify blk _)[k]?=_;rw[Array.getElem?_modify,if_neg (fun e=>y n5N)]):p:=h
theorem i5k(h:p:=by rw[getElem!_pos D j R2b,getElem!_pos D i w3A]at this;simp only[Array.getElem_toList];omega):p:=h
theorem e7z(h:p:=by simp only[Value.slice.injEq,Option.some.injEq,Addr.mk.injEq,and_true]at N;obtain⟨rfl,_,_⟩:=N;exact x0d H):p:=h
theorem t0O(h:p:=by rw[L _ (x0D h.hx) (fun e=>(Y _ e).2.2 rfl)];exact h.hx):p:=h
theorem G2Z(h:p:=by rw[ltLo]at *;simp at *;exact f6J):p:=h
theorem m4V(h:p:=by have H:=V U true _ ((V L).trans (by simp[N])) j;clear L o U j;go_wp2;go_ret;exact H):p:=h
theorem R2c(h:p:=by rw[x0e _ f6J,L _ (x0D h.hr) (fun e=>(Y _ e).1 rfl)];exact h.hr):p:=h
theorem t6L(h:p:=by have t:D.extract 0 xs.toArray.size=D:=(by grind);rw[t]at a;simpa using a):p:=h
theorem w0Y(h:p:=by rw[x0e _ f6J,L _ (x0D m) (fun e=>(Y _ e).2.1 rfl)];exact m):p:=h
end
def Cn.wpair(l:List Rec)(c a b:Int):Bool:=decide (Cn.cls l c≠0)||decide (Cn.cls l a≠0)||decide (Cn.opn l b≠[])||(decide (Cn.opn l a≠[])&&(Cn.prim l a).isNone)||decide (b<128)||decide (a=46)
theorem Cn.pair_w l i r:Cn.pair l i r=(!(Cn.wpair l r.lo (r.to.getD 0 0) (r.to.getD 1 0))&&!((l.take i).any fun k=>decide (k.kind=7/\k.to.getD 0 0=r.to.getD 0 0/\k.to.getD 1 0=r.to.getD 1 0))):=rfl
theorem z0m{zs:List Int}:decide (zs≠[])=decide (0<zs.length):=by
 cases zs<;>simp
theorem OpB.sk{w0 w w1 v zs}(h:Sk .i32 w0 v zs\/Ok .i32 21 w1 w.heap.size v zs)(q:Bw w0 w)(Y:Bw w w1):Sk .i32 w1 v zs:=by
 rcases h with h | h
 ·exact(h.below q).below Y
 ·exact h.sk
theorem z1R l cs os cv ov mr c a b w(C:Glob w)(h:Idx l w cv ov cs os)(I:Rune c)(y:Rune a)(u:Rune b):Calls prog 141 #[xV cv ov (.map (some mr)),.int .i32 c,.int .i32 a,.int .i32 b] w (x0g w (Cn.wpair l c a b)):=by
 obtain⟨p,D,rfl,_,_⟩:=h.rc.shape;obtain⟨Z,B,rfl,_,_⟩:=h.ro.shape;obtain⟨Q,n⟩:∃Q,w.alloc (.cells #[.slice p cs.length D,.slice Z os.length B,.map (some mr)] 168)=Q:=⟨_,rfl⟩;have hb:Bw w Q:=n ▸ (b0r).alloc (l0r _) _;have f:Q.heap.size=w.heap.size+1:=by rw[<- n];exact M7L
 have Y:Q.heap[w.heap.size]?=some (.cells #[.slice p cs.length D,.slice Z os.length B,.map (some mr)] 168 (0,0)):=by
  rw[<- n];exact R0n
 have x:=fun W (P:Bw Q W)=>hb.trans (P.mono f6J);have o:=O fun W P=>And.intro (x W P) (cells3 ((P.block _ f6J).trans Y));have K1:=O fun W P=>x5o l cs os _ _ mr c W (C.on (x W P)) (h.below (x W P)) I;have K2:=O fun W P=>x5o l cs os _ _ mr a W (C.on (x W P)) (h.below (x W P)) y;have S:=O fun W P=>x7Q l cs os _ _ mr b w W C h (x W P) u;have t:=O fun W P=>x7Q l cs os _ _ mr a w W C h (x W P) y;have A:=O fun W P=>z2c l cs os _ _ mr a W (C.on (x W P)) (h.below (x W P)) y;obtain⟨R,hV⟩:∃R,Cn.wpair l c a b=R:=⟨_,rfl⟩;rw[hV];have U:Hid (∀z W,R=z->Bw Q W->x0g w R (.returned (.bool z)) W):=fun z W e P=>⟨by rw[e],x W P⟩
 have L:Hid (R=(decide (Cn.cls l c≠0)||decide (Cn.cls l a≠0)||decide (0<(Cn.opn l b).length)||(decide (0<(Cn.opn l a).length)&&!(Cn.prim l a).isSome)||decide (b<128)||decide (a=46))):=hV.symm.trans (by
  unfold Cn.wpair;rw[z0m,z0m]
  cases Cn.prim l a<;>rfl)
 have j:=Below.refl Q.heap.size Q;clear x h C I y u hV hb f Y;generalize Cn.cls l c=n1,Cn.cls l a=n2,Cn.opn l b=z3,Cn.opn l a=z4,(Cn.prim l a).isSome=p5 at *;unfold xV at *;subst n;go_enter func141,ntmps141;go_wp2_with fail;refine c1m (V K1 _ j) fun wr b1=>?_;replace j:=bthen j b1;clear b1 K1;obtain⟨_,F,g,s⟩:=V o _ j;rcases Decidable.em (n1=0)with rfl | q;rotate_left
 ·have d:(n1 != 0)=true:=n9g;have H:=V U true _ ((V L).trans n9g) j;clear L o U j K2 S t A q;exact P4I
 go_wp2_with fail;refine c1m (V K2 _ j) fun wr b1=>?_;replace j:=bthen j b1;clear b1 K2 F g s;obtain⟨_,F,g,s⟩:=V o _ j;rcases Decidable.em (n2=0)with rfl | q;rotate_left
 ·have d:(n2 != 0)=true:=n9g;have H:=V U true _ ((V L).trans n9g) j;clear L o U j S t A q;exact P4I
 go_wp2_with fail;refine(V S _ j).mono ?_;rintro e wr ⟨v,rfl,G,b1⟩;obtain⟨J,ab,rfl,_,_⟩:=(OpB.sk G (V o _ j).1 b1).shape;clear G;replace j:=bthen j b1;clear b1 S F g s;obtain⟨_,F,g,s⟩:=V o _ j;rcases Nat.eq_zero_or_pos z3.length with q | q;rotate_left
 ·have d:(0:Int)<(z3.length:Int):=f6J;have H:=V U true _ ((V L).trans n9g) j;clear L o U j t A;exact P4I
 obtain rfl:=List.eq_nil_of_length_eq_zero q;clear q;go_wp2_with fail;refine(V t _ j).mono ?_;rintro e wr ⟨v,rfl,G,b1⟩;obtain⟨J,ab,rfl,_,_⟩:=(OpB.sk G (V o _ j).1 b1).shape;clear G;replace j:=bthen j b1;clear b1 t F g s;obtain⟨_,F,g,s⟩:=V o _ j;rcases Nat.eq_zero_or_pos z4.length with q | q
 ·obtain rfl:=List.eq_nil_of_length_eq_zero q;clear q A;have L:Hid (R=(decide (b<128)||decide (a=46))):=(V L).trans M7L;by_cases N:b<128
  ·exact m4V
  have i:decide (b<128)=false:=d0f N;by_cases m:a=46
  ·subst m;exact m4V
  have d7:(a==46)=false:=b0f m;have H:=V U false _ ((V L).trans (by simp[N,m])) j;clear L o U j m;exact P4I
 have d:(0:Int)<(z4.length:Int):=f6J;go_wp2_with fail;refine c1m (V A _ j) fun wr b1=>?_;replace j:=bthen j b1;clear b1 A F g s;obtain⟨_,F,g,s⟩:=V o _ j;cases p5
 ·have H:=V U true _ ((V L).trans n9g) j;clear L o U j;exact P4I
 have L:Hid (R=(decide (b<128)||decide (a=46))):=(V L).trans M7L;by_cases N:b<128
 ·exact m4V
 have i:decide (b<128)=false:=d0f N;by_cases m:a=46
 ·subst m;exact m4V
 have d7:(a==46)=false:=b0f m;have H:=V U false _ ((V L).trans (by simp[N,m])) j;clear L o U j m;go_wp2;go_ret;exact H
open Go.RowKit Go.Sort Go.Shelf
abbrev Sp:=Rec×Option Addr×Nat×Nat
def sval(x:Sp):Value:=.slice x.2.1 x.2.2.1 x.2.2.2
def encR(x:Sp):List Value:=x0A (x.1,sval x)
theorem y4l(x:Sp):(encR x).length=8:=rfl
theorem x9p(x:Sp):∀v∈encR x,v.oneCell'=true:=x7r x.1 rfl
def loOf(x y:Sp):Int:=Lib.compareInt x.1.lo y.1.lo
theorem ltLo(x y:Sp):ltOf loOf x y=decide (x.1.lo<y.1.lo):=by
 unfold ltOf loOf Lib.compareInt;by_cases Z:x.1.lo<y.1.lo
 ·simp[Z]
 ·grind
theorem swoLo:SWO (ltOf loOf):={
 irrefl:=fun x=>by rw[ltLo];exact M7L
 trans:=fun x y z Z D=>G2Z
 ntrans:=fun x y z Z D=>G2Z }
theorem z2I(x y:Sp) W:Calls prog 137 #[.agg (encR x).toArray,.agg (encR y).toArray] W fun e w'=>e=.returned (.int .i64 (loOf x y))/\∃q A,w'=grow (W.drewN q) A:=by
 have K:=O (fun W=>x2G x.1.lo y.1.lo W);have e:Lib.compareInt x.1.lo y.1.lo=loOf x y:=rfl;rw[e]at K;obtain⟨a,J,B,t⟩:=x;obtain⟨b,U,D,C⟩:=y;show Calls prog 137 #[.agg #[.int .i64 a.kind,.int .i64 a.lo,.int .i64 a.hi,.int .i64 a.n,.slice J B t,.string a.name,.string a.other,.float .f64 a.wt],.agg #[.int .i64 b.kind,.int .i64 b.lo,.int .i64 b.hi,.int .i64 b.n,.slice U D C,.string b.name,.string b.other,.float .f64 b.wt]] W _;go_enter func137,ntmps137;exact u6L
def z9e(w0:World)(xs:List Sp):Prop:=∀x∈xs,Sk .i32 w0 (sval x) x.1.to/\RecFit x.1
def Rsh(w0 w:World)(v:Value)(xs:List Sp):Prop:=w.ownsRow w0.heap.size 60 8 v xs.length (xs.flatMap encR)/\z9e w0 xs
def Rsx(w0 w:World)(v:Value)(xs:List Sp):Prop:=z9e w0 xs/\((xs=[]/\∃ao cap,v=.slice ao 0 cap/\cap<=9223372036854775807) \/
 ∃blk cap,v=.slice (some ⟨blk,0,none⟩) xs.length cap/\w0.heap.size<=blk/\blk<w.heap.size/\xs.length<=cap/\cap<=9223372036854775807/\∀i j,i<xs.length->j<8->w.cell? ⟨blk,i*8+j,none⟩=some ((encR (xs.getD i (Cn.none,none,0,0)))[j]!))
theorem y2P(xs:List Sp):xs.flatMap encR=rcells (xs.map fun x=>(x.1,sval x)):=by
 induction xs with
 | nil=>rfl
 | cons x xs ih=>rw[List.flatMap_cons,ih];rfl
theorem x9u(xs:List Sp) i j(hi:i<xs.length)(X:j<8):(xs.flatMap encR)[i*8+j]?=some ((encR (xs.getD i (Cn.none,none,0,0)))[j]!):=by
 rw[y2P,x1t _ i j w3y X];have e:(xs.map fun x=>(x.1,sval x)).getD i (Cn.none,undef)=((xs.getD i (Cn.none,none,0,0)).1,sval (xs.getD i (Cn.none,none,0,0))):=(by grind);rw[e];show(encR (xs.getD i (Cn.none,none,0,0)))[j]?=_;have S:=y4l (xs.getD i (Cn.none,none,0,0));rw[List.getElem?_eq_getElem (by rw[S];exact X),getElem!_pos _ j (by rw[S];exact X)]
theorem Rsx.keep{w0 w w' v}{xs:List Sp}(h:Rsx w0 w v xs)(L:w.heap.size<=w'.heap.size)(G:∀g,v.ownBlock=some g->w'.heap[g]?=w.heap[g]?):Rsx w0 w' v xs:=by
 refine⟨h.1,?_⟩;rcases h.2 with D | ⟨blk,A,rfl,Z,D,J,H,B⟩
 ·exact .inl D
 ·exact .inr ⟨blk,A,rfl,Z,f6J,J,H,fun i j hi X=>by rw[World.cell?_of_block (G blk rfl)];exact B i j hi X⟩
theorem Rsx.rcs{w0 w v}{xs:List Sp}(h:Rsx w0 w v xs)(q:Bw w0 w)(S:xs.length<=1000000000):Rcs w v (xs.map (·.1)):=by
 refine⟨t2Y,fun r u=>?_,?_⟩
 ·obtain⟨x,A,rfl⟩:=List.mem_map.1 u;exact(h.1 x A).2
 ·rcases h.2 with⟨rfl,J,C,rfl,I⟩ | ⟨blk,C,rfl,Z,D,F,H,B⟩
  ·exact .inl ⟨rfl,J,C,rfl,I⟩
  ·refine .inr ⟨blk,0,C,M7L,i0O,H,fun i hi=>?_⟩;rw[List.length_map]at hi;have e:(xs.map (·.1)).getD i Cn.none=(xs.getD i (Cn.none,none,0,0)).1:=(by grind);have G:xs.getD i (Cn.none,none,0,0)∈xs:=(by grind);rw[e,Nat.zero_add];exact⟨B i 0 hi f6J,B i 1 hi f6J,B i 2 hi f6J,B i 3 hi f6J,⟨_,B i 4 hi f6J,(h.1 _ G).1.below q⟩,B i 5 hi f6J,B i 6 hi f6J,B i 7 hi f6J⟩
theorem Rsh.rsx{w0 w v}{xs:List Sp}(h:Rsh w0 w v xs):Rsx w0 w v xs:=by
 refine⟨h.2,?_⟩;have Z:=h.1;rcases h.1.2 with⟨rfl,R⟩ | ⟨g,A,P,rfl,C,H,F,W,f,U⟩
 ·grind
 ·refine .inr ⟨g,A,rfl,C,(Z.lt g rfl).2,F,m4a,fun i j hi X=>?_⟩;have e:=Z.cells (g:=g) rfl (i*8+j) _ (x9u xs i j hi X);rw[addr_add,Nat.zero_add]at e;exact e
theorem Rsh.holds[Inhabited Rec]{w0 w}{xs:List Sp}{g cap}(h:Rsh w0 w (.slice (some ⟨g,0,none⟩) xs.length cap) xs):HoldsK encR 8 w g 0 xs.toArray:=by
 intro j X;rw[size_flatK]at X;have I:j<xs.length*8:=R1Z;rw[get_flatK _ _ _ _ X];have hd:j / 8<xs.length:=f6J
 have e:=h.1.cells (g:=g) rfl j _ (by
  have:=x9u xs (j / 8) (j%8) hd f6J;rw[(f6J:j / 8*8+j%8=j)]at this
  exact this)
 rw[addr_add,Nat.zero_add]at e;have A:xs.toArray[j / 8]! = xs.getD (j / 8) (Cn.none,none,0,0):=(by grind);rw[A,Nat.zero_add];refine⟨e,?_⟩;rcases h.1.2 with⟨N,_⟩ | ⟨S,t,P,N,_,H,_⟩
 ·simp at N
 ·exact e7z
theorem y7d[Inhabited Rec]{w:World}{blk n}{d:Array Sp}{m:Array Obj}:w.grownBy (sortWorldK encR 8 w blk 0 n d m) (some blk):=by
 refine⟨rfl,rfl,rfl,?_,fun k G y=>?_⟩
 ·show w.heap.size<=((putRowK encR 8 (Sort.ahead w n) blk 0 d).heap++m).size;rw[Array.size_append];have:(putRowK encR 8 (Sort.ahead w n) blk 0 d).heap.size=w.heap.size:=r2O;omega
 ·show((putRowK encR 8 (Sort.ahead w n) blk 0 d).heap++m)[k]?=_;have L:(putRowK encR 8 (Sort.ahead w n) blk 0 d).heap.size=w.heap.size:=r2O;exact V4f
theorem z7s p cap fv w:Calls prog 227 #[.slice p 0 cap,.int .i64 0,.int .i64 0,fv] w fun e w'=>e=.returned (.tuple #[])/\w'=w:=by
 go_enter func227,ntmps227;exact f0B
theorem z7Z p cap lim fv w:Calls prog 181 #[.slice p 0 cap,.int .i64 0,.int .i64 0,.int .i64 lim,fv] w fun e w'=>e=.returned (.tuple #[])/\w'=w:=by
 have hi:=fun W=>z7s p cap fv W;go_enter func181,ntmps181;go_wp2;refine wp_loop_rounds 1 ?_;rw[rounds_succ];go_wp2_with(go_at_call 227;refine(hi _).mono ?_;rintro e w' ⟨rfl,rfl⟩)
 exact m8y
theorem z4D p cap fv w:Calls prog 136 #[.slice p 0 cap,fv] w fun e w'=>e=.returned (.tuple #[])/\w'=w:=by
 have S:∀W,Calls prog 182 #[.int .u64 0] W fun e w'=>e=.returned (.int .i64 0)/\w'=W:=fun W =>
  Any.bits_Len (SlLaysF0.n15.bits (P:=prog) (ρ:=Tryz.lays136_ren) { Tryz.lays136 with }) 0 W f6J f6J
 have s:=fun A W=>z7Z p cap A fv W;go_enter func136,ntmps136;go_wp2_with(first| (go_at_call 182;refine(S _).mono ?_;rintro e w' ⟨rfl,rfl⟩)|(go_at_call 181;refine(s _ _).mono ?_;rintro e w' ⟨rfl,rfl⟩));go_end0;exact⟨rfl,rfl⟩
def SortB(w0 w:World)(v:Value)(xs:List Sp)(e:Ending)(w':World):Prop:=e=.returned (.tuple #[])/\∃xs':List Sp,xs'.Perm xs/\(xs'.Pairwise fun a b=>a.1.lo<=b.1.lo)/\Rsx w0 w' v xs'/\w.grownBy w' v.ownBlock
theorem y5c w0 w v(xs:List Sp)(h:Rsh w0 w v xs)(S:xs.length<=1000000000):Calls prog 136 #[v,.func (.func 137) #[] #[]] w (SortB w0 w v xs):=by
 have u:Inhabited Rec:=⟨Cn.none⟩;rcases h.1.2 with⟨rfl,R⟩ | ⟨g,B,P,rfl,C,H,F,W,f,U⟩
 ·obtain rfl:xs=[]:=List.eq_nil_of_length_eq_zero R;refine(z4D none 0 _ w).mono ?_;rintro e o ⟨rfl,rfl⟩;exact⟨rfl,[],List.Perm.refl _,.nil,h.rsx,⟨rfl,rfl,rfl,l0r _,fun _ _ _=>rfl⟩⟩
 ·have Q:=(h.1.lt g rfl).2;have d:=h.holds;have q:∀p w,(callFunc 137 p).run prog w=.ok (.enter 137 p) w:=enters_of func137 f4A rfl;have I:CmpLays prog 137 #[] encR 8 loOf g 0 xs.toArray.size w:=fun _ _ _ _ x y=>z2I x y _;have b:∀w,(isAgg 60).run prog w=.ok true w:=Tryz.isAgg60;have l:∀w,(Go.sizeOf 60).run prog w=.ok 8 w:=Tryz.sizeOf60;have K:=AnyQ.slices_SortFunc Tryz.lays136 8 b l encR y4l x9p loOf swoLo 137 #[] g 0 B xs.toArray w q I d Q P8P;change Calls prog 136 #[.slice (some ⟨g,0,none⟩) xs.length B,_] w _ at K;refine K.mono ?_;rintro e o ⟨rfl,D,n,m,⟨G,_,a⟩,L,rfl⟩;have Y:D.size=xs.length:=by simpa using G
  have N:D.toList.Perm xs:=t6L
  have Z:SWK encR 8 w g 0 D (sortWorldK encR 8 w g 0 n D m):=⟨n,m,rfl⟩;have s:=Z.holds Q d G;refine⟨rfl,D.toList,N,?_,⟨fun x A=>h.2 x (N.mem_iff.1 A),.inr ⟨g,B,by rw[(W8B:D.toList.length=xs.length)],C,Z.lt Q,by rw[Array.length_toList,Y];exact F,m4e,fun i j hi X=>?_⟩⟩,y7d⟩
  ·rw[List.pairwise_iff_getElem];intro i j hi X J;have:=L i j (Nat.zero_le _) J (by simp at X ⊢;exact f6J);rw[ltLo,decide_eq_false_iff_not]at this;exact i5k
  ·rw[Array.length_toList]at hi;have:=(s.cell (i:=i) (c:=j) hi X).1;rw[Nat.zero_add]at this;rw[this,getElem!_pos D i hi];simp[List.getD,hi]
open Go.RowKit Go.MapKept Go.WideMaps
open Go.ChangeMaps (setBlock)
theorem pairLaw2:KeyLaw prog 222:=deep_law_laid x6h (m:=3) e8N (o0d f4x) f4x f4x
def pk2(a b:Int):Value:=.agg #[.int .i32 a,.int .i32 b]
theorem y4c:prog.cellsOf 222=2:=f4x
theorem y8j:prog.cellsOf 21=1:=f4x
theorem y6l:prog.keyType 222=true:=f4x
theorem x3c{a}(h:Rune a) D:prog.keyLits (D+1) 21 [.int .i32 a]=some [.int .i32 a]:=by
 rw[Program.keyLits.eq_def];simp only[underlying21]
 have q:(Lit.int .i32 a).wf=true:=by
  unfold Rune at h;exact w7O
 rw[if_pos ⟨trivial,q⟩]
theorem y2Z{a b}(d:Rune a)(Y:Rune b) D:prog.keyLits (D+2) 222 [.int .i32 a,.int .i32 b]=some [.int .i32 a,.int .i32 b]:=by
 rw[Program.keyLits.eq_def];simp only[underlying222,y4c,y8j];rw[if_pos (show[Value.int .i32 a,Value.int .i32 b].length=2 from rfl)];have e:List.range 2=[0,1]:=rfl;rw[e];simp[List.mapM_cons,x3c d D,x3c Y D]
theorem y3k{a b}(d:Rune a)(Y:Rune b):∃l,keyOf prog 222 (pk2 a b)=some l:=by
 have o:(pk2 a b).formed prog 222=true:=by
  simp[pk2,Value.formed,underlying222,y4c]
 obtain⟨n,F⟩:∃n,prog.types.size+1=n+2:=⟨prog.types.size-1,m4z⟩;refine⟨.string (keyBytes [.int .i32 a,.int .i32 b]),?_⟩;unfold keyOf;simp only[underlying222,y6l,o,Bool.and_self,if_true,F];show(prog.keyLits (n+2) 222 [.int .i32 a,.int .i32 b]).map _=_;rw[y2Z d Y n];rfl
theorem z0E{a b a' b'}(h:pk2 a b=pk2 a' b'):a=a'/\b=b':=by
 unfold pk2 at h;exact S4r
structure PObj(es:Array MapEntry)(clock:Nat)(c:Int->Int->Option Int):Prop where
 st:Stamped es clock
 keys:∀x∈es.toList,∃a b n,x.key=pk2 a b/\x.val=.int .i64 n/\c a b=some n/\Rune a/\Rune b
 none:∀a b,(∀x∈es.toList,x.key≠pk2 a b)->c a b=none
def PAt(w:World)(r:Nat)(c:Int->Int->Option Int):Prop:=∃es clock,w.heap[r]?=some (.map es clock)/\PObj es clock c
theorem PObj.ks{U:Array MapEntry}{clock}{c:Int->Int->Option Int}(h:PObj U clock c):∀x∈U.toList,∃l,keyOf prog 222 x.key=some l:=fun x A=>by
 obtain⟨a,b,n,e,_,_,d,Y⟩:=h.keys x A;rw[e];exact y3k d Y
theorem q0O:PObj #[] 0 (fun _ _=>none):=⟨⟨fun x A=>by simp at A,M7K,M7K⟩,fun x A=>by simp at A,fun _ _ _=>rfl⟩
theorem look_ok{w r}{c:Int->Int->Option Int}(h:PAt w r c){a b}(d:Rune a)(A:Rune b) :
  (Instr.lookup 166 (.map (some r)) (pk2 a b) true).run prog w=.ok (.tuple #[.int .i64 ((c a b).getD 0),.bool (c a b).isSome]) w/\(Instr.lookup 166 (.map (some r)) (pk2 a b) false).run prog w=.ok (.int .i64 ((c a b).getD 0)) w:=by
 obtain⟨U,clock,Y,h⟩:=h;obtain⟨l,S⟩:=y3k d A;rcases pairLaw2.find w S U.toList h.ks with⟨Z,D⟩ | ⟨j,B,Z,D,J⟩
 ·rw[h.none a b D];refine⟨?_,?_⟩
  ·exact P5t
  ·exact P5t
 ·obtain⟨I,p,n,t,C,N,_,_⟩:=h.keys B (List.mem_of_getElem? D);obtain⟨rfl,rfl⟩:=z0E (t.symm.trans J);rw[N];refine⟨?_,?_⟩
  ·exact e0U
  ·exact e0U
def setP(c:Int->Int->Option Int)(a b n:Int):Int->Int->Option Int:=fun x y=>if x=a/\y=b then some n else c x y
theorem y6X{w r}{c:Int->Int->Option Int}(h:PAt w r c){a b}(d:Rune a)(C:Rune b)(F:c a b=none) n :
  ∃f L,(Instr.mapUpdate 166 (.map (some r)) (pk2 a b) (.int .i64 n)).run prog w=.ok () (setBlock w r (.map f L))/\PObj f L (setP c a b n):=by
 obtain⟨U,clock,Y,h⟩:=h;obtain⟨l,S⟩:=y3k d C;rcases pairLaw2.find w S U.toList h.ks with⟨Z,D⟩ | ⟨j,B,Z,D,J⟩
 ·refine⟨U.push ⟨pk2 a b,.int .i64 n,clock⟩,clock+1,?_,⟨stamped_push h.st D,fun x A=>?_,fun I p G=>?_⟩⟩
  ·simp[Instr.mapUpdate,run_underlying underlying166,MapKept.run_getObj_map Y,pairLaw2.check w false S,Z,MapKept.run_setObj_map _ Y,Result.andThen,setBlock]
  ·simp only[Array.toList_push,List.mem_append,List.mem_singleton]at A;rcases A with A | rfl
   ·obtain⟨I,p,m,t,H,N,R⟩:=h.keys x A;refine⟨I,p,m,t,H,?_,R⟩;unfold setP;rw[if_neg,N];rintro⟨rfl,rfl⟩;rw[F]at N;cases N
   ·exact⟨a,b,n,rfl,rfl,by unfold setP;rw[if_pos ⟨rfl,rfl⟩],d,C⟩
  ·unfold setP;rw[if_neg]
   ·exact h.none I p fun x A=>G x f9x
   ·rintro⟨rfl,rfl⟩;exact G ⟨pk2 I p,.int .i64 n,clock⟩ M7K rfl
 ·obtain⟨I,p,m,t,H,N,_,_⟩:=h.keys B (List.mem_of_getElem? D);obtain⟨rfl,rfl⟩:=z0E (t.symm.trans J);rw[F]at N;cases N
theorem x8K r vt w(N:Sk .i32 w vt r.to)(D:r.to.length=2):Calls prog 135 #[recV r vt] w fun e w'=>e=.returned (pk2 (r.to.getD 0 0) (r.to.getD 1 0))/\Bw w w':=by
 obtain⟨b,R,J,rfl,_,I,G⟩:=N.place f6J;have F:=G 0 f6J;have g:=G 1 f6J;rw[Nat.add_zero]at F;have H:=x0a F;have A:∀W,Bw w W->W.cell? ⟨b,R,none⟩=some (.int .i32 (r.to.getD 0 0)):=fun W h=>(by rw[h.cell H];exact F);have B:∀W,Bw w W->W.cell? ⟨b,R+1,none⟩=some (.int .i32 (r.to.getD 1 0)):=fun W h=>(by rw[h.cell H];exact g);have l:Bw w ((w.alloc (.cells #[.int .i64 r.kind,.int .i64 r.lo,.int .i64 r.hi,.int .i64 r.n,.slice (some ⟨b,R,none⟩) 2 J,.string r.name,.string r.other,.float .f64 r.wt] 60)).alloc (.cells #[.int .i32 0,.int .i32 0] 222)):=((b0r).alloc (l0r _) _).alloc M7N _;have X:=A _ l;have Y:=B _ l;rw[D];unfold recV pk2;generalize r.to.getD 0 0=p,r.to.getD 1 0=q at *;go_enter func135,ntmps135;go_wp2;go_region;go_wp2;go_returns;exact⟨rfl,(((b0r).alloc (l0r _) _).alloc M7N _).trans ((x0i ⟨1,rfl⟩).mono P8P)⟩
open Go.RowKit Go.MapKept Go.WideMaps
open Go.ChangeMaps (setBlock)
structure KL(T:TypeId)(K:Value->Prop):Prop where
 check:∀(w:World) (em:Bool) (v:Value),K v->(Instr.checkKey em 10000 T v).run prog w=.ok () w
 find:∀(w:World) (x:Value),K x->∀es:List MapEntry,(∀e∈es,K e.key)->((Instr.findKey T x es).run prog w=.ok none w/\∀e∈es,e.key≠x)\/∃j e,(Instr.findKey T x es).run prog w=.ok (some (j,e.val)) w/\es[j]?=some e/\e.key=x
 stays:∀(w:World) (v:Value),K v->(Instr.keyThatStays v v).run prog w=.ok v w
theorem KL.of{T}{K:Value->Prop}(h:KeyLaw prog T)(G:∀v,K v->∃l,keyOf prog T v=some l):KL T K :=
 ⟨fun w C v N=>by obtain⟨l,S⟩:=G v N;exact h.check w C S,fun w x A U B=>by obtain⟨l,S⟩:=G x A;exact h.find w S U (fun e P=>G _ (B e P)),fun w v N=>by obtain⟨l,S⟩:=G v N;exact h.stays w S⟩
structure GObj(K:Value->Prop)(es:Array MapEntry)(clock:Nat)(c:Value->Option Value):Prop where
 st:Stamped es clock
 keys:∀x∈es.toList,K x.key/\c x.key=some x.val
 none:∀k,(∀x∈es.toList,x.key≠k)->c k=none
def GAt(K:Value->Prop)(w:World)(r:Nat)(c:Value->Option Value):Prop:=∃es clock,w.heap[r]?=some (.map es clock)/\GObj K es clock c
theorem y9k(K:Value->Prop)(c:Value->Option Value)(h:∀k,c k=none):GObj K #[] 0 c:=⟨stamped_empty 0,fun x A=>by simp at A,fun k _=>h k⟩
section
variable {T M E:TypeId} {K:Value->Prop} {c c':Value->Option Value} {w:World} {r:Nat} {k z v:Value}
theorem z5n(L:KL T K)(I:prog.underlying M=some (.map T E))(A:∀w,(zeroValue E).run prog w=.ok z w)(h:GAt K w r c)(G:K k) :
  (Instr.lookup M (.map (some r)) k true).run prog w=.ok (.tuple #[(c k).getD z,.bool (c k).isSome]) w/\(Instr.lookup M (.map (some r)) k false).run prog w=.ok ((c k).getD z) w:=by
 obtain⟨U,clock,Y,h⟩:=h;rcases L.find w k G U.toList (fun e P=>(h.keys e P).1)with⟨Z,D⟩ | ⟨j,B,Z,D,J⟩
 ·rw[h.none k D];refine⟨?_,?_⟩
  ·exact w1t
  ·exact w1t
 ·have t:=(h.keys B (List.mem_of_getElem? D)).2;rw[J]at t;rw[t];refine⟨?_,?_⟩
  ·exact i5H
  ·exact i5H
theorem x9w(L:KL T K)(I:prog.underlying M=some (.map T E))(h:GAt K w r c)(G:K k)(Z:c' k=some v)(D:∀x,x≠k->c' x=c x) :
  ∃f R,(Instr.mapUpdate M (.map (some r)) k v).run prog w=.ok () (setBlock w r (.map f R))/\GObj K f R c':=by
 obtain⟨U,clock,Y,h⟩:=h;rcases L.find w k G U.toList (fun e P=>(h.keys e P).1)with⟨X,W⟩ | ⟨j,B,X,W,g⟩
 ·refine⟨U.push ⟨k,v,clock⟩,clock+1,?_,⟨stamped_push h.st W,fun x A=>?_,fun x F=>?_⟩⟩
  ·simp[Instr.mapUpdate,run_underlying I,MapKept.run_getObj_map Y,L.check w false _ G,X,MapKept.run_setObj_map _ Y,Result.andThen,setBlock]
  ·simp only[Array.toList_push,List.mem_append,List.mem_singleton]at A;rcases A with A | rfl
   ·refine⟨(h.keys x A).1,?_⟩;rw[D _ (W x A)];exact(h.keys x A).2
   ·exact⟨G,Z⟩
  ·have C:x≠k:=fun e=>F ⟨k,v,clock⟩ M7K e.symm;rw[D x C];exact h.none x fun y hy=>F y M4t
 ·have H:U[j]?=some B:=(by simpa using W);have d:j<U.size:=(Array.getElem?_eq_some_iff.1 H).1;refine⟨U.modify j fun e=>{ e with key:=k,val:=v },clock,?_,⟨stamped_modify h.st j _ (fun _ _=>rfl) (fun e _ P=>?_),fun x A=>?_,fun x F=>?_⟩⟩
  ·simp[Instr.mapUpdate,run_underlying I,MapKept.run_getObj_map Y,L.check w false _ G,X,H,g,L.stays w _ G,MapKept.run_setObj_map _ Y,Result.andThen,setBlock]
  ·rw[H]at P;cases P;exact g.symm
  ·obtain⟨i,hi⟩:=List.getElem?_of_mem A;rw[Array.getElem?_toList,Array.getElem?_modify]at hi;by_cases J:j=i
   ·grind
   ·rw[if_neg J]at hi;have b:x∈U.toList:=List.mem_of_getElem? (by rw[Array.getElem?_toList];exact hi)
    have C:x.key≠k:=fun e=>by
     have N:=h.st.2.2;have t:(U.toList.map (·.key))[i]?=some k:=(by rw[List.getElem?_map,Array.getElem?_toList,hi,Option.map_some,e]);have a:(U.toList.map (·.key))[j]?=some k:=(by rw[List.getElem?_map,Array.getElem?_toList,H,Option.map_some,g]);have S:i<(U.toList.map (·.key)).length:=(List.getElem?_eq_some_iff.1 t).1;exact J ((List.getElem?_inj S N).1 (t.trans a.symm)).symm
    rw[D _ C];exact h.keys x b
  ·have C:x≠k:=fun e=>by
    have Q:(⟨k,v,B.born⟩:MapEntry)∈(U.modify j fun e=>{ e with key:=k,val:=v }).toList:=by
     refine List.mem_of_getElem? (i:=j) ?_;rw[Array.getElem?_toList,Array.getElem?_modify,if_pos rfl,H];rfl
    exact F _ Q e.symm
   rw[D x C];refine h.none x fun y hy=>?_;obtain⟨i,hi⟩:=List.getElem?_of_mem hy;rw[Array.getElem?_toList]at hi;by_cases J:j=i
   ·subst J;rw[H]at hi;cases hi;rw[g];exact fun e=>C e.symm
   ·refine F y (List.mem_of_getElem? (i:=i) ?_);rw[Array.getElem?_toList,Array.getElem?_modify,if_neg J];exact hi
end
namespace Cn
def isP(a b:Int)(r:Rec):Bool:=decide (r.kind=7/\r.to.getD 0 0=a/\r.to.getD 1 0=b)
def firstP(l:List Rec)(a b:Int):Option Int:=(l.findIdx? (isP a b)).map Int.ofNat
theorem x3A l r a b:firstP (l++[r]) a b=(firstP l a b).or (if isP a b r then some (l.length:Int)else Option.none):=by
 unfold firstP;rw[List.findIdx?_append]
 cases h:l.findIdx? (isP a b)with
 | some n=>simp
 | none=>grind
theorem x2I{l r}(h:r.kind≠7):firstP (l++[r])=firstP l:=by
 funext a b;rw[x3A,show isP a b r=false by unfold isP;exact d0f (fun q=>h q.1)];simp
theorem y0X{l r}(G:(firstP l (r.to.getD 0 0) (r.to.getD 1 0)).isSome=true):firstP (l++[r])=firstP l:=by
 funext a b;rw[x3A];by_cases h:isP a b r=true
 ·obtain⟨_,rfl,rfl⟩:=o0d h;obtain⟨n,F⟩:=Option.isSome_iff_exists.1 G;rw[F];rfl
 ·rw[if_neg h];simp
theorem y5Y{l r}(y:r.kind=7)(G:firstP l (r.to.getD 0 0) (r.to.getD 1 0)=Option.none):firstP (l++[r])=setP (firstP l) (r.to.getD 0 0) (r.to.getD 1 0) (l.length:Int):=by
 funext a b;rw[x3A];unfold setP;by_cases h:a=r.to.getD 0 0/\b=r.to.getD 1 0
 ·obtain⟨rfl,rfl⟩:=h;rw[G,show isP (r.to.getD 0 0) (r.to.getD 1 0) r=true from d0t ⟨y,rfl,rfl⟩];simp
 ·rw[if_neg h,show isP a b r=false from d0f (fun q=>h ⟨q.2.1.symm,q.2.2.symm⟩)];simp
theorem y8X{l i}(hi:i<l.length)(y:(l.getD i none).kind=7):((firstP l ((l.getD i none).to.getD 0 0) ((l.getD i none).to.getD 1 0)).getD 0<(i:Int))↔((l.take i).any fun k=>decide (k.kind=7/\k.to.getD 0 0=(l.getD i none).to.getD 0 0/\k.to.getD 1 0=(l.getD i none).to.getD 1 0))=true:=by
 have q:l.getD i none=l[i]:=getD_at hi
 have s:isP ((l.getD i none).to.getD 0 0) ((l.getD i none).to.getD 1 0) l[i]=true:=by
  rw[q]at y ⊢;exact d0t ⟨y,rfl,rfl⟩
 generalize(l.getD i none).to.getD 0 0=a,(l.getD i none).to.getD 1 0=b at *;have C:((l.take i).any fun k=>decide (k.kind=7/\k.to.getD 0 0=a/\k.to.getD 1 0=b))=(l.take i).any (isP a b):=rfl;rw[C];unfold firstP
 cases hf:l.findIdx? (isP a b)with
 | none=>grind
 | some n =>
  obtain⟨F,N,H⟩:=List.findIdx?_eq_some_iff_getElem.1 hf;simp only[Option.map_some,Option.getD_some,List.any_eq_true];constructor
  ·intro h;have G:n<i:=(by grind);exact⟨l[n],List.mem_take_iff_getElem.2 ⟨n,f6J,rfl⟩,N⟩
  ·rintro⟨x,A,D⟩;obtain⟨j,X,rfl⟩:=List.mem_take_iff_getElem.1 A;have B:n<=j:=(by grind);show(Int.ofNat n)<(i:Int);have:(Int.ofNat n)=(n:Int):=rfl;omega
end Cn
open Go.ChangeMaps (setBlock)
structure NI(w0 W:World)(c:Int->Int->Option Int)(cv ov:Value)(cxs oxs:List Sp):Prop where
 hr:W.heap[w0.heap.size]?=some (.cells #[.slice none 0 0,.slice none 0 0,.map none] 168 (0,0))
 hm:PAt W (w0.heap.size+1) c
 hx:W.heap[w0.heap.size+2]?=some (.cells #[cv,ov,.map (some (w0.heap.size+1))] 168 (0,0))
 hc:Rsh w0 W cv cxs
 ho:Rsh w0 W ov oxs
 ap:∀g,cv.ownBlock=some g->ov.ownBlock≠some g
 bel:Below w0.heap.size w0 W
theorem x0D{W:World}{g o}(h:W.heap[g]?=some o):g<W.heap.size:=by grind
theorem Rsh.keep{w0 W W' v}{xs:List Sp}(h:Rsh w0 W v xs)(G:∀g,v.ownBlock=some g->W'.heap[g]?=W.heap[g]?):Rsh w0 W' v xs:=⟨x0w h.1 G,h.2⟩
theorem NI.below{w0 W W'}{c:Int->Int->Option Int}{cv ov}{R A:List Sp}(h:NI w0 W c cv ov R A)(Y:Bw W W'):NI w0 W' c cv ov R A:=by
 obtain⟨U,q,m,J⟩:=h.hm
 exact⟨by rw[Y.block _ (x0D h.hr)];exact h.hr,⟨U,q,by rw[Y.block _ (x0D m)];exact m,J⟩,by rw[Y.block _ (x0D h.hx)];exact h.hx,
  h.hc.keep fun g C=>Y.block g (h.hc.1.lt g C).2,h.ho.keep fun g C=>Y.block g (h.ho.1.lt g C).2,h.ap,bthen h.bel Y⟩
theorem z8l{w0 W v}{xs:List Sp}(h:Rsh w0 W v xs){g}(C:v.ownBlock=some g):∃P,W.heap[g]?=some (.cells P 60 (0,0)):=by
 rcases h.1.2 with⟨rfl,_⟩ | ⟨k,A,P,rfl,_,H,_⟩
 ·cases C
 ·exact G3o
theorem NI.far{w0 W}{c:Int->Int->Option Int}{cv ov v}{R A xs:List Sp}(h:NI w0 W c cv ov R A)(N:Rsh w0 W v xs):∀g,v.ownBlock=some g->g≠w0.heap.size/\g≠w0.heap.size+1/\g≠w0.heap.size+2:=by
 intro g C;obtain⟨P,J⟩:=z8l N C;refine⟨fun e=>?_,fun e=>?_,fun e=>?_⟩
 ·rw[e,h.hr]at J;simp at J
 ·obtain⟨U,q,m,_⟩:=h.hm;rw[e,m]at J;simp at J
 ·rw[e,h.hx]at J;simp at J
theorem NI.classes{w0 W w1}{c:Int->Int->Option Int}{cv ov v'}{R B:List Sp}{o}{x:Sp}(h:NI w0 W c cv ov R B)(A:Sk .i32 w0 (sval x) x.1.to/\RecFit x.1)
  (F:w1.ownsRow w0.heap.size 60 8 v' (R.length+1) (R.flatMap encR++encR x)) (C:(W.alloc o).grownBy w1 cv.ownBlock) (X:v'.ownBlock=cv.ownBlock\/v'.ownBlock=some (W.heap.size+1)) :
  w1.heap[w0.heap.size+2]?=some (.cells #[cv,ov,.map (some (w0.heap.size+1))] 168 (0,0))/\NI w0 (w1.setCell ⟨w0.heap.size+2,0,none⟩ v') c v' ov (R++[x]) B:=by
 have N:∀g,g<W.heap.size->(W.alloc o).heap[g]?=W.heap[g]?:=fun g C=>((Below.refl W.heap.size W).alloc (l0r _) _).block g C
 have L:∀g,g<W.heap.size->cv.ownBlock≠some g->w1.heap[g]?=W.heap[g]?:=fun g Z D=>by
  rw[C.block g P8P (fun e=>D e.symm),N g Z]
 have Y:=h.far h.hc;have H:w1.heap[w0.heap.size+2]?=some (.cells #[cv,ov,.map (some (w0.heap.size+1))] 168 (0,0)):=t0O
 have t:Rsh w0 w1 v' (R++[x]):=⟨i0O,fun y hy=>by
  rcases List.mem_append.1 hy with hy | hy
  ·exact h.hc.2 y hy
  ·simp only[List.mem_singleton]at hy
   subst hy;exact A⟩
 have hold:∀g,v'.ownBlock=some g->g≠w0.heap.size+2/\ov.ownBlock≠some g:=fun g Q=>by
  rcases X with e | e
  ·rw[e]at Q;exact⟨(Y g Q).2.2,h.ap g Q⟩
  ·rw[e]at Q;simp at Q;have P:=x0D h.hx;refine⟨f6J,fun I=>?_⟩;have:=(h.ho.1.lt g I).2;omega
 obtain⟨U,q,m,J⟩:=h.hm;refine⟨H,⟨?_,⟨U,q,?_,J⟩,?_,?_,?_,fun g Q=>(hold g Q).2,?_⟩⟩
 ·exact R2c
 ·exact w0Y
 ·rw[x0c H];rfl
 ·exact t.keep fun g Q=>by rw[x0e _ (hold g Q).1]
 ·refine h.ho.keep fun g Q=>?_;rw[x0e _ (h.far h.ho g Q).2.2,L g (h.ho.1.lt g Q).2 (fun e=>h.ap g e Q)]
 ·have b1:Bw w0 w1:=(h.bel.alloc h.bel.size o).grown C (by have:=h.bel.size;exact P8P) (fun k G=>(h.hc.1.lt k G).1);exact x0b b1 f6J v'
theorem NI.opens{w0 W w1}{c:Int->Int->Option Int}{cv ov v'}{R B:List Sp}{o}{x:Sp}(h:NI w0 W c cv ov R B)(A:Sk .i32 w0 (sval x) x.1.to/\RecFit x.1)
  (F:w1.ownsRow w0.heap.size 60 8 v' (B.length+1) (B.flatMap encR++encR x)) (C:(W.alloc o).grownBy w1 ov.ownBlock) (X:v'.ownBlock=ov.ownBlock\/v'.ownBlock=some (W.heap.size+1)) :
  w1.heap[w0.heap.size+2]?=some (.cells #[cv,ov,.map (some (w0.heap.size+1))] 168 (0,0))/\NI w0 (w1.setCell ⟨w0.heap.size+2,1,none⟩ v') c cv v' R (B++[x]):=by
 have N:∀g,g<W.heap.size->(W.alloc o).heap[g]?=W.heap[g]?:=fun g C=>((Below.refl W.heap.size W).alloc (l0r _) _).block g C
 have L:∀g,g<W.heap.size->ov.ownBlock≠some g->w1.heap[g]?=W.heap[g]?:=fun g Z D=>by
  rw[C.block g P8P (fun e=>D e.symm),N g Z]
 have Y:=h.far h.ho;have H:w1.heap[w0.heap.size+2]?=some (.cells #[cv,ov,.map (some (w0.heap.size+1))] 168 (0,0)):=t0O
 have t:Rsh w0 w1 v' (B++[x]):=⟨i0O,fun y hy=>by
  rcases List.mem_append.1 hy with hy | hy
  ·exact h.ho.2 y hy
  ·simp only[List.mem_singleton]at hy
   subst hy;exact A⟩
 have hold:∀g,v'.ownBlock=some g->g≠w0.heap.size+2/\cv.ownBlock≠some g:=fun g Q=>by
  rcases X with e | e
  ·rw[e]at Q;exact⟨(Y g Q).2.2,fun I=>h.ap g I Q⟩
  ·rw[e]at Q;simp at Q;have P:=x0D h.hx;refine⟨f6J,fun I=>?_⟩;have:=(h.hc.1.lt g I).2;omega
 obtain⟨U,q,m,J⟩:=h.hm;refine⟨H,⟨?_,⟨U,q,?_,J⟩,?_,?_,?_,fun g Z D=>(hold g D).2 Z,?_⟩⟩
 ·exact R2c
 ·exact w0Y
 ·rw[x0c H];rfl
 ·refine h.hc.keep fun g Q=>?_;rw[x0e _ (h.far h.hc g Q).2.2,L g (h.hc.1.lt g Q).2 (fun e=>h.ap g Q e)]
 ·exact t.keep fun g Q=>by rw[x0e _ (hold g Q).1]
 ·have b1:Bw w0 w1:=(h.bel.alloc h.bel.size o).grown C (by have:=h.bel.size;exact P8P) (fun k G=>(h.ho.1.lt k G).1);exact x0b b1 f6J v'
theorem NI.upd{w0 W}{c c':Int->Int->Option Int}{cv ov}{R D:List Sp}{U:Array MapEntry}{cl}(h:NI w0 W c cv ov R D)(j:PObj U cl c'):NI w0 (setBlock W (w0.heap.size+1) (.map U cl)) c' cv ov R D:=by
 obtain⟨B,A,m,_⟩:=h.hm;have F:=x0D m;refine⟨by rw[x1E _ _ f6J];exact h.hr,⟨U,cl,y3z _ _ _ F,j⟩,by rw[x1E _ _ f6J];exact h.hx,?_,?_,h.ap,?_⟩
 ·exact h.hc.keep fun g C=>x1E _ _ (h.far h.hc g C).2.1
 ·exact h.ho.keep fun g C=>x1E _ _ (h.far h.ho g C).2.1
 ·exact h.bel.trans (x4F _ W _ _ f6J)
namespace Cn
theorem y8S{k}(h:fam k=2):k=6:=by
 revert h;exact r2C
theorem fam_three'{k}(h:fam k=3):k=7\/k=8:=by
 revert h;exact r2C
def y7t(a b:Rec):Prop:=right a=0/\right b=0/\clash a b=false
theorem x3u{f}(o:f=2\/f=3){l cs}{p:Rec->Bool}(S:(check6 l).2=0)(s:∀r,p r=true↔fam r.kind=f)(N:cs.Perm (l.filter p))(L:cs.Pairwise fun a b=>a.lo<=b.lo):x1v f cs/\∀r,r∈cs↔r∈l/\fam r.kind=f:=by
 obtain⟨_,u,I⟩:=x0k.1 S;have A:∀r,r∈cs↔r∈l/\fam r.kind=f:=fun r=>(by rw[N.mem_iff,List.mem_filter,s]);have Z:l.Pairwise y7t:=I.imp_of_mem fun{a b} ha hb h=>⟨u a ha,u b hb,h⟩;have D:(l.filter p).Pairwise y7t:=Z.filter p;have J:cs.Pairwise y7t:=(N.pairwise_iff (fun{x y} ⟨a,b,c⟩=>⟨b,a,z2P a b c⟩)).2 D;exact⟨y6C o (fun r q=>⟨u r ((A r).1 q).1,((A r).1 q).2⟩) (J.imp fun⟨_,_,c⟩=>c) L,A⟩
end Cn
