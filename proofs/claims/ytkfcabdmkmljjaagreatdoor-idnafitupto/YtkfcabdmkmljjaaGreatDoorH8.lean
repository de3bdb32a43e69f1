/- Lemmas. -/
import Derived.Test.YtkfcabdmkmljjaaGreatDoorH9
import Derived.Shelf.SlSortCmp.WholeK
import Derived.Test.YtkfcabdmkmljjaaGreatDoorH12
set_option maxHeartbeats 8000000
set_option maxRecDepth 8000
namespace Go.Proofs.YtkfcabdmkmljjaaGreatDoor
open Go.Proofs.Tryz
open Go.RowKit
section
variable{p:Prop}
theorem u6L(h:p:=by go_wp2_with fail;refine(V K _).mono ?_;rintro e Q ⟨rfl,rfl⟩;go_wp2;go_ret;exact⟨rfl,0,_,by rw[alloc_eq_grow,alloc_eq_grow,grow_grow];rfl⟩):p:=h
theorem s5P(h:p:=by simp[Instr.lookup,run_underlying underlying166,MapKept.run_getObj_map Y,pairLaw2.check w _ S,Z,Result.andThen,B]):p:=h
theorem F1d(h:p:=by simp[Instr.lookup,run_underlying B,MapKept.run_getObj_map Y,L.check w _ _ G,Z,Result.andThen,A]):p:=h
theorem f0B(h:p:=by go_wp2;refine wp_loop_rounds 1 ?_;rw[rounds_succ];go_wp2;go_end0;exact g9S):p:=h
theorem r2O(h:p:=by unfold putRowK;rw[size_putRow];rfl):p:=h
theorem P5t(h:p:=by simp[Instr.lookup,run_underlying underlying166,MapKept.run_getObj_map Y,pairLaw2.check w _ S,Z,Result.andThen]):p:=h
theorem m8y(h:p:=by
 (try simp only[Exit.inBlock,Exit.then]);refine bodyPost_ret (results_none rfl _ _ _) rfl ?_
 exact g9S):p:=h
theorem T7Q(h:p:=by simp[Instr.lookup,run_underlying B,MapKept.run_getObj_map Y,L.check w _ _ G,Z,Result.andThen]):p:=h
theorem P5b(h:p:=by rw[Array.getElem?_append_left f6J];show(w.heap.modify blk _)[k]?=_;rw[Array.getElem?_modify,if_neg (fun e=>t n5N)]):p:=h
theorem T7t(h:p:=by rw[getElem!_pos I j R2b,getElem!_pos I i w3A]at this;simp only[Array.getElem_toList];omega):p:=h
theorem e7z(h:p:=by simp only[Value.slice.injEq,Option.some.injEq,Addr.mk.injEq,and_true]at N;obtain⟨rfl,_,_⟩:=N;exact x0d H):p:=h
theorem G2Z(h:p:=by rw[ltLo]at *;simp at *;exact f6J):p:=h
theorem n1h(h:p:=by have H:=V U true _ ((V R).trans (by simp[X])) m;clear R L U m;go_wp2;go_ret;exact H):p:=h
theorem T8m(h:p:=by rw[P _ (x0D h.hx) (fun e=>(J _ e).2.2 rfl)];exact h.hx):p:=h
theorem e0b(h:p:=by rw[x0e _ f6J,P _ (x0D h.hr) (fun e=>(J _ e).1 rfl)];exact h.hr):p:=h
theorem i4p(h:p:=by rw[x0e _ f6J,P _ (x0D j) (fun e=>(J _ e).2.1 rfl)];exact j):p:=h
end
def Cn.wpair(l:List Rec)(c a b:Int):Bool:=decide (Cn.cls l c≠0)||decide (Cn.cls l a≠0)||decide (Cn.opn l b≠[])||(decide (Cn.opn l a≠[])&&(Cn.prim l a).isNone)||decide (b<128)||decide (a=46)
theorem Cn.pair_w l i r:Cn.pair l i r=(!(Cn.wpair l r.lo (r.to.getD 0 0) (r.to.getD 1 0))&&!((l.take i).any fun k=>decide (k.kind=7/\k.to.getD 0 0=r.to.getD 0 0/\k.to.getD 1 0=r.to.getD 1 0))):=rfl
theorem z0a{zs:List Int}:decide (zs≠[])=decide (0<zs.length):=by
 cases zs<;>simp
theorem OpB.sk{w0 w w1 v zs}(h:Sk .i32 w0 v zs\/Ok .i32 21 w1 w.heap.size v zs)(m:Bw w0 w)(Y:Bw w w1):Sk .i32 w1 v zs:=by
 rcases h with h | h
 ·exact(h.below m).below Y
 ·exact h.sk
theorem z1G l cs os cv ov mr c a b w(C:Glob w)(h:Idx l w cv ov cs os)(I:Rune c)(g:Rune a)(ab:Rune b):Calls prog 141 #[xV cv ov (.map (some mr)),.int .i32 c,.int .i32 a,.int .i32 b] w (x0g w (Cn.wpair l c a b)):=by
 obtain⟨s,Z,rfl,_,_⟩:=h.rc.shape;obtain⟨P,D,rfl,_,_⟩:=h.ro.shape;obtain⟨Q,p⟩:∃Q,w.alloc (.cells #[.slice s cs.length Z,.slice P os.length D,.map (some mr)] 168)=Q:=⟨_,rfl⟩;have hb:Bw w Q:=p ▸ (b0r).alloc (l0r _) _;have f:Q.heap.size=w.heap.size+1:=by rw[<- p];exact M7L
 have Y:Q.heap[w.heap.size]?=some (.cells #[.slice s cs.length Z,.slice P os.length D,.map (some mr)] 168 (0,0)):=by
  rw[<- p];exact R0n
 have x:=fun W (S:Bw Q W)=>hb.trans (S.mono f6J);have L:=O fun W S=>And.intro (x W S) (cells3 ((S.block _ f6J).trans Y));have i:=O fun W S=>x5n l cs os _ _ mr c W (C.on (x W S)) (h.below (x W S)) I;have j:=O fun W S=>x5n l cs os _ _ mr a W (C.on (x W S)) (h.below (x W S)) g;have K3:=O fun W S=>x7I l cs os _ _ mr b w W C h (x W S) ab;have K4:=O fun W S=>x7I l cs os _ _ mr a w W C h (x W S) g;have F:=O fun W S=>z1R l cs os _ _ mr a W (C.on (x W S)) (h.below (x W S)) g;obtain⟨A,n⟩:∃A,Cn.wpair l c a b=A:=⟨_,rfl⟩;rw[n];have U:Hid (∀z W,A=z->Bw Q W->x0g w A (.returned (.bool z)) W):=fun z W e S=>⟨by rw[e],x W S⟩
 have R:Hid (A=(decide (Cn.cls l c≠0)||decide (Cn.cls l a≠0)||decide (0<(Cn.opn l b).length)||(decide (0<(Cn.opn l a).length)&&!(Cn.prim l a).isSome)||decide (b<128)||decide (a=46))):=n.symm.trans (by
  unfold Cn.wpair;rw[z0a,z0a]
  cases Cn.prim l a<;>rfl)
 have m:=Below.refl Q.heap.size Q;clear x h C I g ab n hb f Y;generalize Cn.cls l c=n1,Cn.cls l a=n2,Cn.opn l b=z3,Cn.opn l a=z4,(Cn.prim l a).isSome=N at *;unfold xV at *;subst p;go_enter func141,ntmps141;go_wp2_with fail;refine c1m (V i _ m) fun wr b1=>?_;replace m:=bthen m b1;clear b1 i;obtain⟨_,u,y,y2⟩:=V L _ m;rcases Decidable.em (n1=0)with rfl | q;rotate_left
 ·have d:(n1 != 0)=true:=n9f;have H:=V U true _ ((V R).trans n9f) m;clear R L U m j K3 K4 F q;exact P4I
 go_wp2_with fail;refine c1m (V j _ m) fun wr b1=>?_;replace m:=bthen m b1;clear b1 j u y y2;obtain⟨_,u,y,y2⟩:=V L _ m;rcases Decidable.em (n2=0)with rfl | q;rotate_left
 ·have d:(n2 != 0)=true:=n9f;have H:=V U true _ ((V R).trans n9f) m;clear R L U m K3 K4 F q;exact P4I
 go_wp2_with fail;refine(V K3 _ m).mono ?_;rintro e wr ⟨v,rfl,G,b1⟩;obtain⟨B,ae,rfl,_,_⟩:=(OpB.sk G (V L _ m).1 b1).shape;clear G;replace m:=bthen m b1;clear b1 K3 u y y2;obtain⟨_,u,y,y2⟩:=V L _ m;rcases Nat.eq_zero_or_pos z3.length with q | q;rotate_left
 ·have d:(0:Int)<(z3.length:Int):=f6J;have H:=V U true _ ((V R).trans n9f) m;clear R L U m K4 F;exact P4I
 obtain rfl:=List.eq_nil_of_length_eq_zero q;clear q;go_wp2_with fail;refine(V K4 _ m).mono ?_;rintro e wr ⟨v,rfl,G,b1⟩;obtain⟨B,ae,rfl,_,_⟩:=(OpB.sk G (V L _ m).1 b1).shape;clear G;replace m:=bthen m b1;clear b1 K4 u y y2;obtain⟨_,u,y,y2⟩:=V L _ m;rcases Nat.eq_zero_or_pos z4.length with q | q
 ·obtain rfl:=List.eq_nil_of_length_eq_zero q;clear q F;have R:Hid (A=(decide (b<128)||decide (a=46))):=(V R).trans M7L;by_cases X:b<128
  ·exact n1h
  have t:decide (b<128)=false:=d0f X;by_cases o:a=46
  ·subst o;exact n1h
  have d7:(a==46)=false:=b0f o;have H:=V U false _ ((V R).trans (by simp[X,o])) m;clear R L U m o;exact P4I
 have d:(0:Int)<(z4.length:Int):=f6J;go_wp2_with fail;refine c1m (V F _ m) fun wr b1=>?_;replace m:=bthen m b1;clear b1 F u y y2;obtain⟨_,u,y,y2⟩:=V L _ m;cases N
 ·have H:=V U true _ ((V R).trans n9f) m;clear R L U m;exact P4I
 have R:Hid (A=(decide (b<128)||decide (a=46))):=(V R).trans M7L;by_cases X:b<128
 ·exact n1h
 have t:decide (b<128)=false:=d0f X;by_cases o:a=46
 ·subst o;exact n1h
 have d7:(a==46)=false:=b0f o;have H:=V U false _ ((V R).trans (by simp[X,o])) m;clear R L U m o;go_wp2;go_ret;exact H
open Go.RowKit Go.Sort Go.Shelf
abbrev Sp:=Rec×Option Addr×Nat×Nat
def sval(x:Sp):Value:=.slice x.2.1 x.2.2.1 x.2.2.2
def encR(x:Sp):List Value:=x0A (x.1,sval x)
theorem y3V(x:Sp):(encR x).length=8:=rfl
theorem x9h(x:Sp):∀v∈encR x,v.oneCell'=true:=x7l x.1 rfl
def loOf(x y:Sp):Int:=Lib.compareInt x.1.lo y.1.lo
theorem ltLo(x y:Sp):ltOf loOf x y=decide (x.1.lo<y.1.lo):=by
 unfold ltOf loOf Lib.compareInt;by_cases Z:x.1.lo<y.1.lo
 ·simp[Z]
 ·grind
theorem swoLo:SWO (ltOf loOf):={
 irrefl:=fun x=>by rw[ltLo];exact M7L
 trans:=fun x y z Z D=>G2Z
 ntrans:=fun x y z Z D=>G2Z }
theorem z2w(x y:Sp) W:Calls prog 137 #[.agg (encR x).toArray,.agg (encR y).toArray] W fun e w'=>e=.returned (.int .i64 (loOf x y))/\∃q A,w'=grow (W.drewN q) A:=by
 have K:=O (fun W=>x2J x.1.lo y.1.lo W);have e:Lib.compareInt x.1.lo y.1.lo=loOf x y:=rfl;rw[e]at K;obtain⟨a,B,C,j⟩:=x;obtain⟨b,G,H,D⟩:=y;show Calls prog 137 #[.agg #[.int .i64 a.kind,.int .i64 a.lo,.int .i64 a.hi,.int .i64 a.n,.slice B C j,.string a.name,.string a.other,.float .f64 a.wt],.agg #[.int .i64 b.kind,.int .i64 b.lo,.int .i64 b.hi,.int .i64 b.n,.slice G H D,.string b.name,.string b.other,.float .f64 b.wt]] W _;go_enter func137,ntmps137;exact u6L
def z8H(w0:World)(xs:List Sp):Prop:=∀x∈xs,Sk .i32 w0 (sval x) x.1.to/\RecFit x.1
def Rsh(w0 w:World)(v:Value)(xs:List Sp):Prop:=w.ownsRow w0.heap.size 60 8 v xs.length (xs.flatMap encR)/\z8H w0 xs
def Rsx(w0 w:World)(v:Value)(xs:List Sp):Prop:=z8H w0 xs/\((xs=[]/\∃ao cap,v=.slice ao 0 cap/\cap<=9223372036854775807) \/
 ∃blk cap,v=.slice (some ⟨blk,0,none⟩) xs.length cap/\w0.heap.size<=blk/\blk<w.heap.size/\xs.length<=cap/\cap<=9223372036854775807/\∀i j,i<xs.length->j<8->w.cell? ⟨blk,i*8+j,none⟩=some ((encR (xs.getD i (Cn.none,none,0,0)))[j]!))
theorem y2C(xs:List Sp):xs.flatMap encR=rcells (xs.map fun x=>(x.1,sval x)):=by
 induction xs with
 | nil=>rfl
 | cons x xs ih=>rw[List.flatMap_cons,ih];rfl
theorem x9m(xs:List Sp) i j(hi:i<xs.length)(X:j<8):(xs.flatMap encR)[i*8+j]?=some ((encR (xs.getD i (Cn.none,none,0,0)))[j]!):=by
 rw[y2C,x1s _ i j w3y X];have e:(xs.map fun x=>(x.1,sval x)).getD i (Cn.none,undef)=((xs.getD i (Cn.none,none,0,0)).1,sval (xs.getD i (Cn.none,none,0,0))):=(by grind);rw[e];show(encR (xs.getD i (Cn.none,none,0,0)))[j]?=_;have S:=y3V (xs.getD i (Cn.none,none,0,0));rw[List.getElem?_eq_getElem (by rw[S];exact X),getElem!_pos _ j (by rw[S];exact X)]
theorem Rsx.keep{w0 w w' v}{xs:List Sp}(h:Rsx w0 w v xs)(L:w.heap.size<=w'.heap.size)(G:∀g,v.ownBlock=some g->w'.heap[g]?=w.heap[g]?):Rsx w0 w' v xs:=by
 refine⟨h.1,?_⟩;rcases h.2 with D | ⟨blk,A,rfl,Z,D,J,H,B⟩
 ·exact .inl D
 ·exact .inr ⟨blk,A,rfl,Z,f6J,J,H,fun i j hi X=>by rw[World.cell?_of_block (G blk rfl)];exact B i j hi X⟩
theorem Rsx.rcs{w0 w v}{xs:List Sp}(h:Rsx w0 w v xs)(m:Bw w0 w)(S:xs.length<=1000000000):Rcs w v (xs.map (·.1)):=by
 refine⟨t2Y,fun r u=>?_,?_⟩
 ·obtain⟨x,A,rfl⟩:=List.mem_map.1 u;exact(h.1 x A).2
 ·rcases h.2 with⟨rfl,B,F,rfl,I⟩ | ⟨blk,F,rfl,Z,D,J,H,C⟩
  ·exact .inl ⟨rfl,B,F,rfl,I⟩
  ·refine .inr ⟨blk,0,F,M7L,I8T,H,fun i hi=>?_⟩;rw[List.length_map]at hi;have e:(xs.map (·.1)).getD i Cn.none=(xs.getD i (Cn.none,none,0,0)).1:=(by grind);have o:xs.getD i (Cn.none,none,0,0)∈xs:=(by grind);rw[e,Nat.zero_add];exact⟨C i 0 hi f6J,C i 1 hi f6J,C i 2 hi f6J,C i 3 hi f6J,⟨_,C i 4 hi f6J,(h.1 _ o).1.below m⟩,C i 5 hi f6J,C i 6 hi f6J,C i 7 hi f6J⟩
theorem Rsh.rsx{w0 w v}{xs:List Sp}(h:Rsh w0 w v xs):Rsx w0 w v xs:=by
 refine⟨h.2,?_⟩;have Z:=h.1;rcases h.1.2 with⟨rfl,R⟩ | ⟨g,A,Q,rfl,C,H,F,G,f,U⟩
 ·grind
 ·refine .inr ⟨g,A,rfl,C,(Z.lt g rfl).2,F,V3H,fun i j hi X=>?_⟩;have e:=Z.cells (g:=g) rfl (i*8+j) _ (x9m xs i j hi X);rw[addr_add,Nat.zero_add]at e;exact e
theorem Rsh.holds[Inhabited Rec]{w0 w}{xs:List Sp}{g cap}(h:Rsh w0 w (.slice (some ⟨g,0,none⟩) xs.length cap) xs):HoldsK encR 8 w g 0 xs.toArray:=by
 intro j X;rw[size_flatK]at X;have W:j<xs.length*8:=R1Z;rw[get_flatK _ _ _ _ X];have hd:j / 8<xs.length:=f6J
 have e:=h.1.cells (g:=g) rfl j _ (by
  have:=x9m xs (j / 8) (j%8) hd f6J;rw[(f6J:j / 8*8+j%8=j)]at this
  exact this)
 rw[addr_add,Nat.zero_add]at e;have C:xs.toArray[j / 8]! = xs.getD (j / 8) (Cn.none,none,0,0):=(by grind);rw[C,Nat.zero_add];refine⟨e,?_⟩;rcases h.1.2 with⟨N,_⟩ | ⟨S,A,Q,N,_,H,_⟩
 ·simp at N
 ·exact e7z
theorem y6Q[Inhabited Rec]{w:World}{blk n}{d:Array Sp}{u:Array Obj}:w.grownBy (sortWorldK encR 8 w blk 0 n d u) (some blk):=by
 refine⟨rfl,rfl,rfl,?_,fun k G t=>?_⟩
 ·show w.heap.size<=((putRowK encR 8 (Sort.ahead w n) blk 0 d).heap++u).size;rw[Array.size_append];have:(putRowK encR 8 (Sort.ahead w n) blk 0 d).heap.size=w.heap.size:=r2O;omega
 ·show((putRowK encR 8 (Sort.ahead w n) blk 0 d).heap++u)[k]?=_;have L:(putRowK encR 8 (Sort.ahead w n) blk 0 d).heap.size=w.heap.size:=r2O;exact P5b
theorem z7b p cap fv w:Calls prog 227 #[.slice p 0 cap,.int .i64 0,.int .i64 0,fv] w fun e w'=>e=.returned (.tuple #[])/\w'=w:=by
 go_enter func227,ntmps227;exact f0B
theorem z7F p cap lim fv w:Calls prog 181 #[.slice p 0 cap,.int .i64 0,.int .i64 0,.int .i64 lim,fv] w fun e w'=>e=.returned (.tuple #[])/\w'=w:=by
 have hi:=fun W=>z7b p cap fv W;go_enter func181,ntmps181;go_wp2;refine wp_loop_rounds 1 ?_;rw[rounds_succ];go_wp2_with(go_at_call 227;refine(hi _).mono ?_;rintro e w' ⟨rfl,rfl⟩)
 exact m8y
theorem z4o p cap fv w:Calls prog 136 #[.slice p 0 cap,fv] w fun e w'=>e=.returned (.tuple #[])/\w'=w:=by
 have S:∀W,Calls prog 182 #[.int .u64 0] W fun e w'=>e=.returned (.int .i64 0)/\w'=W:=fun W =>
  Any.bits_Len (SlLaysF0.n15.bits (P:=prog) (ρ:=Tryz.lays136_ren) { Tryz.lays136 with }) 0 W f6J f6J
 have s:=fun A W=>z7F p cap A fv W;go_enter func136,ntmps136;go_wp2_with(first| (go_at_call 182;refine(S _).mono ?_;rintro e w' ⟨rfl,rfl⟩)|(go_at_call 181;refine(s _ _).mono ?_;rintro e w' ⟨rfl,rfl⟩));go_end0;exact⟨rfl,rfl⟩
def SortB(w0 w:World)(v:Value)(xs:List Sp)(e:Ending)(w':World):Prop:=e=.returned (.tuple #[])/\∃xs':List Sp,xs'.Perm xs/\(xs'.Pairwise fun a b=>a.1.lo<=b.1.lo)/\Rsx w0 w' v xs'/\w.grownBy w' v.ownBlock
theorem y4O w0 w v(xs:List Sp)(h:Rsh w0 w v xs)(S:xs.length<=1000000000):Calls prog 136 #[v,.func (.func 137) #[] #[]] w (SortB w0 w v xs):=by
 have q:Inhabited Rec:=⟨Cn.none⟩;rcases h.1.2 with⟨rfl,R⟩ | ⟨g,B,Q,rfl,C,H,F,G,f,U⟩
 ·obtain rfl:xs=[]:=List.eq_nil_of_length_eq_zero R;refine(z4o none 0 _ w).mono ?_;rintro e a ⟨rfl,rfl⟩;exact⟨rfl,[],List.Perm.refl _,.nil,h.rsx,⟨rfl,rfl,rfl,l0r _,fun _ _ _=>rfl⟩⟩
 ·have N:=(h.1.lt g rfl).2;have s:=h.holds;have m:∀D w,(callFunc 137 D).run prog w=.ok (.enter 137 D) w:=enters_of func137 f4A rfl;have Y:CmpLays prog 137 #[] encR 8 loOf g 0 xs.toArray.size w:=fun _ _ _ _ x y=>z2w x y _;have l:∀w,(isAgg 60).run prog w=.ok true w:=Tryz.isAgg60;have o:∀w,(Go.sizeOf 60).run prog w=.ok 8 w:=Tryz.sizeOf60;have K:=AnyQ.slices_SortFunc Tryz.lays136 8 l o encR y3V x9h loOf swoLo 137 #[] g 0 B xs.toArray w m Y s N P8P;change Calls prog 136 #[.slice (some ⟨g,0,none⟩) xs.length B,_] w _ at K;refine K.mono ?_;rintro e a ⟨rfl,I,n,u,⟨J,_,t⟩,L,rfl⟩;have Z:I.size=xs.length:=by simpa using J
  have W:I.toList.Perm xs:=by
   have P:I.extract 0 xs.toArray.size=I:=(by grind);rw[P]at t;simpa using t
  have d:SWK encR 8 w g 0 I (sortWorldK encR 8 w g 0 n I u):=⟨n,u,rfl⟩;have b:=d.holds N s J;refine⟨rfl,I.toList,W,?_,⟨fun x A=>h.2 x (W.mem_iff.1 A),.inr ⟨g,B,by rw[show I.toList.length=xs.length by simpa using Z],C,d.lt N,by rw[Array.length_toList,Z];exact F,by unfold maxLen at G;exact f6J,fun i j hi X=>?_⟩⟩,y6Q⟩
  ·rw[List.pairwise_iff_getElem];intro i j hi X p;have:=L i j (Nat.zero_le _) p (by simp at X ⊢;exact f6J);rw[ltLo,decide_eq_false_iff_not]at this;exact T7t
  ·rw[Array.length_toList]at hi;have:=(b.cell (i:=i) (c:=j) hi X).1;rw[Nat.zero_add]at this;rw[this,getElem!_pos I i hi];simp[List.getD,hi]
open Go.RowKit Go.MapKept Go.WideMaps
open Go.ChangeMaps (setBlock)
theorem pairLaw2:KeyLaw prog 222:=deep_law_laid x6e (m:=3) e8N (o0d f4x) f4x f4x
def pk2(a b:Int):Value:=.agg #[.int .i32 a,.int .i32 b]
theorem y3P:prog.cellsOf 222=2:=f4x
theorem y7T:prog.cellsOf 21=1:=f4x
theorem y5X:prog.keyType 222=true:=f4x
theorem x3e{a}(h:Rune a) D:prog.keyLits (D+1) 21 [.int .i32 a]=some [.int .i32 a]:=by
 rw[Program.keyLits.eq_def];simp only[underlying21]
 have m:(Lit.int .i32 a).wf=true:=by
  unfold Rune at h;exact w7O
 rw[if_pos ⟨trivial,m⟩]
theorem y2M{a b}(g:Rune a)(Y:Rune b) D:prog.keyLits (D+2) 222 [.int .i32 a,.int .i32 b]=some [.int .i32 a,.int .i32 b]:=by
 rw[Program.keyLits.eq_def];simp only[underlying222,y3P,y7T];rw[if_pos (show[Value.int .i32 a,Value.int .i32 b].length=2 from rfl)];have e:List.range 2=[0,1]:=rfl;rw[e];simp[List.mapM_cons,x3e g D,x3e Y D]
theorem y2X{a b}(g:Rune a)(Y:Rune b):∃l,keyOf prog 222 (pk2 a b)=some l:=by
 have A:(pk2 a b).formed prog 222=true:=by
  simp[pk2,Value.formed,underlying222,y3P]
 obtain⟨n,F⟩:∃n,prog.types.size+1=n+2:=⟨prog.types.size-1,m4z⟩;refine⟨.string (keyBytes [.int .i32 a,.int .i32 b]),?_⟩;unfold keyOf;simp only[underlying222,y5X,A,Bool.and_self,if_true,F];show(prog.keyLits (n+2) 222 [.int .i32 a,.int .i32 b]).map _=_;rw[y2M g Y n];rfl
theorem z0t{a b a' b'}(h:pk2 a b=pk2 a' b'):a=a'/\b=b':=by
 unfold pk2 at h;exact S4r
structure PObj(es:Array MapEntry)(clock:Nat)(c:Int->Int->Option Int):Prop where
 st:Stamped es clock
 keys:∀x∈es.toList,∃a b n,x.key=pk2 a b/\x.val=.int .i64 n/\c a b=some n/\Rune a/\Rune b
 none:∀a b,(∀x∈es.toList,x.key≠pk2 a b)->c a b=none
def PAt(w:World)(r:Nat)(c:Int->Int->Option Int):Prop:=∃es clock,w.heap[r]?=some (.map es clock)/\PObj es clock c
theorem PObj.ks{d:Array MapEntry}{clock}{c:Int->Int->Option Int}(h:PObj d clock c):∀x∈d.toList,∃l,keyOf prog 222 x.key=some l:=fun x A=>by
 obtain⟨a,b,n,e,_,_,g,Y⟩:=h.keys x A;rw[e];exact y2X g Y
theorem q0v:PObj #[] 0 (fun _ _=>none):=⟨⟨fun x A=>by simp at A,M7K,M7K⟩,fun x A=>by simp at A,fun _ _ _=>rfl⟩
theorem look_ok{w r}{c:Int->Int->Option Int}(h:PAt w r c){a b}(g:Rune a)(A:Rune b) :
  (Instr.lookup 166 (.map (some r)) (pk2 a b) true).run prog w=.ok (.tuple #[.int .i64 ((c a b).getD 0),.bool (c a b).isSome]) w/\(Instr.lookup 166 (.map (some r)) (pk2 a b) false).run prog w=.ok (.int .i64 ((c a b).getD 0)) w:=by
 obtain⟨d,clock,Y,h⟩:=h;obtain⟨l,S⟩:=y2X g A;rcases pairLaw2.find w S d.toList h.ks with⟨Z,D⟩ | ⟨j,R,Z,D,J⟩
 ·rw[h.none a b D];refine⟨?_,?_⟩
  ·exact P5t
  ·exact P5t
 ·obtain⟨C,f,n,P,B,N,_,_⟩:=h.keys R (List.mem_of_getElem? D);obtain⟨rfl,rfl⟩:=z0t (P.symm.trans J);rw[N];refine⟨?_,?_⟩
  ·exact s5P
  ·exact s5P
def setP(c:Int->Int->Option Int)(a b n:Int):Int->Int->Option Int:=fun x y=>if x=a/\y=b then some n else c x y
theorem y6K{w r}{c:Int->Int->Option Int}(h:PAt w r c){a b}(g:Rune a)(G:Rune b)(F:c a b=none) n :
  ∃Q B,(Instr.mapUpdate 166 (.map (some r)) (pk2 a b) (.int .i64 n)).run prog w=.ok () (setBlock w r (.map Q B))/\PObj Q B (setP c a b n):=by
 obtain⟨d,clock,Y,h⟩:=h;obtain⟨l,S⟩:=y2X g G;rcases pairLaw2.find w S d.toList h.ks with⟨Z,D⟩ | ⟨j,R,Z,D,J⟩
 ·refine⟨d.push ⟨pk2 a b,.int .i64 n,clock⟩,clock+1,?_,⟨stamped_push h.st D,fun x A=>?_,fun C f L=>?_⟩⟩
  ·simp[Instr.mapUpdate,run_underlying underlying166,MapKept.run_getObj_map Y,pairLaw2.check w false S,Z,MapKept.run_setObj_map _ Y,Result.andThen,setBlock]
  ·simp only[Array.toList_push,List.mem_append,List.mem_singleton]at A;rcases A with A | rfl
   ·obtain⟨C,f,m,P,H,N,I⟩:=h.keys x A;refine⟨C,f,m,P,H,?_,I⟩;unfold setP;rw[if_neg,N];rintro⟨rfl,rfl⟩;rw[F]at N;cases N
   ·exact⟨a,b,n,rfl,rfl,by unfold setP;rw[if_pos ⟨rfl,rfl⟩],g,G⟩
  ·unfold setP;rw[if_neg]
   ·exact h.none C f fun x A=>L x f9w
   ·rintro⟨rfl,rfl⟩;exact L ⟨pk2 C f,.int .i64 n,clock⟩ M7K rfl
 ·obtain⟨C,f,m,P,H,N,_,_⟩:=h.keys R (List.mem_of_getElem? D);obtain⟨rfl,rfl⟩:=z0t (P.symm.trans J);rw[F]at N;cases N
theorem x8E r vt w(N:Sk .i32 w vt r.to)(D:r.to.length=2):Calls prog 135 #[recV r vt] w fun e w'=>e=.returned (pk2 (r.to.getD 0 0) (r.to.getD 1 0))/\Bw w w':=by
 obtain⟨b,P,H,rfl,_,I,F⟩:=N.place f6J;have l:=F 0 f6J;have J:=F 1 f6J;rw[Nat.add_zero]at l;have G:=x0a l;have A:∀W,Bw w W->W.cell? ⟨b,P,none⟩=some (.int .i32 (r.to.getD 0 0)):=fun W h=>(by rw[h.cell G];exact l);have B:∀W,Bw w W->W.cell? ⟨b,P+1,none⟩=some (.int .i32 (r.to.getD 1 0)):=fun W h=>(by rw[h.cell G];exact J);have m:Bw w ((w.alloc (.cells #[.int .i64 r.kind,.int .i64 r.lo,.int .i64 r.hi,.int .i64 r.n,.slice (some ⟨b,P,none⟩) 2 H,.string r.name,.string r.other,.float .f64 r.wt] 60)).alloc (.cells #[.int .i32 0,.int .i32 0] 222)):=((b0r).alloc (l0r _) _).alloc M7M _;have i:=A _ m;have y:=B _ m;rw[D];unfold recV pk2;generalize r.to.getD 0 0=p,r.to.getD 1 0=q at *;go_enter func135,ntmps135;go_wp2;go_region;go_wp2;go_returns;exact⟨rfl,(((b0r).alloc (l0r _) _).alloc M7M _).trans ((x0i ⟨1,rfl⟩).mono P8P)⟩
open Go.RowKit Go.MapKept Go.WideMaps
open Go.ChangeMaps (setBlock)
structure KL(T:TypeId)(K:Value->Prop):Prop where
 check:∀(w:World) (em:Bool) (v:Value),K v->(Instr.checkKey em 10000 T v).run prog w=.ok () w
 find:∀(w:World) (x:Value),K x->∀es:List MapEntry,(∀e∈es,K e.key)->((Instr.findKey T x es).run prog w=.ok none w/\∀e∈es,e.key≠x)\/∃j e,(Instr.findKey T x es).run prog w=.ok (some (j,e.val)) w/\es[j]?=some e/\e.key=x
 stays:∀(w:World) (v:Value),K v->(Instr.keyThatStays v v).run prog w=.ok v w
theorem KL.of{T}{K:Value->Prop}(h:KeyLaw prog T)(G:∀v,K v->∃l,keyOf prog T v=some l):KL T K :=
 ⟨fun w C v N=>by obtain⟨l,S⟩:=G v N;exact h.check w C S,fun w x A d B=>by obtain⟨l,S⟩:=G x A;exact h.find w S d (fun e q=>G _ (B e q)),fun w v N=>by obtain⟨l,S⟩:=G v N;exact h.stays w S⟩
structure GObj(K:Value->Prop)(es:Array MapEntry)(clock:Nat)(c:Value->Option Value):Prop where
 st:Stamped es clock
 keys:∀x∈es.toList,K x.key/\c x.key=some x.val
 none:∀k,(∀x∈es.toList,x.key≠k)->c k=none
def GAt(K:Value->Prop)(w:World)(r:Nat)(c:Value->Option Value):Prop:=∃es clock,w.heap[r]?=some (.map es clock)/\GObj K es clock c
theorem y8Y(K:Value->Prop)(c:Value->Option Value)(h:∀k,c k=none):GObj K #[] 0 c:=⟨stamped_empty 0,fun x A=>by simp at A,fun k _=>h k⟩
section
variable {T M E:TypeId} {K:Value->Prop} {c c':Value->Option Value} {w:World} {r:Nat} {k z v:Value}
theorem z4Y(L:KL T K)(B:prog.underlying M=some (.map T E))(A:∀w,(zeroValue E).run prog w=.ok z w)(h:GAt K w r c)(G:K k) :
  (Instr.lookup M (.map (some r)) k true).run prog w=.ok (.tuple #[(c k).getD z,.bool (c k).isSome]) w/\(Instr.lookup M (.map (some r)) k false).run prog w=.ok ((c k).getD z) w:=by
 obtain⟨d,clock,Y,h⟩:=h;rcases L.find w k G d.toList (fun e q=>(h.keys e q).1)with⟨Z,D⟩ | ⟨j,R,Z,D,J⟩
 ·rw[h.none k D];refine⟨?_,?_⟩
  ·exact F1d
  ·exact F1d
 ·have P:=(h.keys R (List.mem_of_getElem? D)).2;rw[J]at P;rw[P];refine⟨?_,?_⟩
  ·exact T7Q
  ·exact T7Q
theorem x9o(L:KL T K)(B:prog.underlying M=some (.map T E))(h:GAt K w r c)(G:K k)(Z:c' k=some v)(D:∀x,x≠k->c' x=c x) :
  ∃Q J,(Instr.mapUpdate M (.map (some r)) k v).run prog w=.ok () (setBlock w r (.map Q J))/\GObj K Q J c':=by
 obtain⟨d,clock,Y,h⟩:=h;rcases L.find w k G d.toList (fun e q=>(h.keys e q).1)with⟨s,N⟩ | ⟨j,R,s,N,t⟩
 ·refine⟨d.push ⟨k,v,clock⟩,clock+1,?_,⟨stamped_push h.st N,fun x A=>?_,fun x F=>?_⟩⟩
  ·simp[Instr.mapUpdate,run_underlying B,MapKept.run_getObj_map Y,L.check w false _ G,s,MapKept.run_setObj_map _ Y,Result.andThen,setBlock]
  ·simp only[Array.toList_push,List.mem_append,List.mem_singleton]at A;rcases A with A | rfl
   ·refine⟨(h.keys x A).1,?_⟩;rw[D _ (N x A)];exact(h.keys x A).2
   ·exact⟨G,Z⟩
  ·have f:x≠k:=fun e=>F ⟨k,v,clock⟩ M7K e.symm;rw[D x f];exact h.none x fun y hy=>F y M4u
 ·have C:d[j]?=some R:=(by simpa using N);have m:j<d.size:=(Array.getElem?_eq_some_iff.1 C).1;refine⟨d.modify j fun e=>{ e with key:=k,val:=v },clock,?_,⟨stamped_modify h.st j _ (fun _ _=>rfl) (fun e _ q=>?_),fun x A=>?_,fun x F=>?_⟩⟩
  ·simp[Instr.mapUpdate,run_underlying B,MapKept.run_getObj_map Y,L.check w false _ G,s,C,t,L.stays w _ G,MapKept.run_setObj_map _ Y,Result.andThen,setBlock]
  ·rw[C]at q;cases q;exact t.symm
  ·obtain⟨i,hi⟩:=List.getElem?_of_mem A;rw[Array.getElem?_toList,Array.getElem?_modify]at hi;by_cases p:j=i
   ·grind
   ·rw[if_neg p]at hi;have o:x∈d.toList:=List.mem_of_getElem? (by rw[Array.getElem?_toList];exact hi)
    have f:x.key≠k:=fun e=>by
     have H:=h.st.2.2;have P:(d.toList.map (·.key))[i]?=some k:=(by rw[List.getElem?_map,Array.getElem?_toList,hi,Option.map_some,e]);have S:(d.toList.map (·.key))[j]?=some k:=(by rw[List.getElem?_map,Array.getElem?_toList,C,Option.map_some,t]);have I:i<(d.toList.map (·.key)).length:=(List.getElem?_eq_some_iff.1 P).1;exact p ((List.getElem?_inj I H).1 (P.trans S.symm)).symm
    rw[D _ f];exact h.keys x o
  ·have f:x≠k:=fun e=>by
    have u:(⟨k,v,R.born⟩:MapEntry)∈(d.modify j fun e=>{ e with key:=k,val:=v }).toList:=by
     refine List.mem_of_getElem? (i:=j) ?_;rw[Array.getElem?_toList,Array.getElem?_modify,if_pos rfl,C];rfl
    exact F _ u e.symm
   rw[D x f];refine h.none x fun y hy=>?_;obtain⟨i,hi⟩:=List.getElem?_of_mem hy;rw[Array.getElem?_toList]at hi;by_cases p:j=i
   ·subst p;rw[C]at hi;cases hi;rw[t];exact fun e=>f e.symm
   ·refine F y (List.mem_of_getElem? (i:=i) ?_);rw[Array.getElem?_toList,Array.getElem?_modify,if_neg p];exact hi
end
namespace Cn
def isP(a b:Int)(r:Rec):Bool:=decide (r.kind=7/\r.to.getD 0 0=a/\r.to.getD 1 0=b)
def firstP(l:List Rec)(a b:Int):Option Int:=(l.findIdx? (isP a b)).map Int.ofNat
theorem x3C l r a b:firstP (l++[r]) a b=(firstP l a b).or (if isP a b r then some (l.length:Int)else Option.none):=by
 unfold firstP;rw[List.findIdx?_append]
 cases h:l.findIdx? (isP a b)with
 | some n=>simp
 | none=>grind
theorem x2L{l r}(h:r.kind≠7):firstP (l++[r])=firstP l:=by
 funext a b;rw[x3C,show isP a b r=false by unfold isP;exact d0f (fun q=>h q.1)];simp
theorem y0M{l r}(G:(firstP l (r.to.getD 0 0) (r.to.getD 1 0)).isSome=true):firstP (l++[r])=firstP l:=by
 funext a b;rw[x3C];by_cases h:isP a b r=true
 ·obtain⟨_,rfl,rfl⟩:=o0d h;obtain⟨n,F⟩:=Option.isSome_iff_exists.1 G;rw[F];rfl
 ·rw[if_neg h];simp
theorem y5K{l r}(x:r.kind=7)(G:firstP l (r.to.getD 0 0) (r.to.getD 1 0)=Option.none):firstP (l++[r])=setP (firstP l) (r.to.getD 0 0) (r.to.getD 1 0) (l.length:Int):=by
 funext a b;rw[x3C];unfold setP;by_cases h:a=r.to.getD 0 0/\b=r.to.getD 1 0
 ·obtain⟨rfl,rfl⟩:=h;rw[G,show isP (r.to.getD 0 0) (r.to.getD 1 0) r=true from d0t ⟨x,rfl,rfl⟩];simp
 ·rw[if_neg h,show isP a b r=false from d0f (fun q=>h ⟨q.2.1.symm,q.2.2.symm⟩)];simp
theorem y8K{l i}(hi:i<l.length)(H:(l.getD i none).kind=7):((firstP l ((l.getD i none).to.getD 0 0) ((l.getD i none).to.getD 1 0)).getD 0<(i:Int))↔((l.take i).any fun k=>decide (k.kind=7/\k.to.getD 0 0=(l.getD i none).to.getD 0 0/\k.to.getD 1 0=(l.getD i none).to.getD 1 0))=true:=by
 have m:l.getD i none=l[i]:=getD_at hi
 have s:isP ((l.getD i none).to.getD 0 0) ((l.getD i none).to.getD 1 0) l[i]=true:=by
  rw[m]at H ⊢;exact d0t ⟨H,rfl,rfl⟩
 generalize(l.getD i none).to.getD 0 0=a,(l.getD i none).to.getD 1 0=b at *;have C:((l.take i).any fun k=>decide (k.kind=7/\k.to.getD 0 0=a/\k.to.getD 1 0=b))=(l.take i).any (isP a b):=rfl;rw[C];unfold firstP
 cases hf:l.findIdx? (isP a b)with
 | none=>grind
 | some n =>
  obtain⟨F,G,q⟩:=List.findIdx?_eq_some_iff_getElem.1 hf;simp only[Option.map_some,Option.getD_some,List.any_eq_true];constructor
  ·intro h;have I:n<i:=(by grind);exact⟨l[n],List.mem_take_iff_getElem.2 ⟨n,f6J,rfl⟩,G⟩
  ·rintro⟨x,A,D⟩;obtain⟨j,X,rfl⟩:=List.mem_take_iff_getElem.1 A;have B:n<=j:=(by grind);show(Int.ofNat n)<(i:Int);have:(Int.ofNat n)=(n:Int):=rfl;omega
end Cn
open Go.ChangeMaps (setBlock)
structure NI(w0 W:World)(c:Int->Int->Option Int)(cv ov:Value)(cxs oxs:List Sp):Prop where
 hr:W.heap[w0.heap.size]?=some (.cells #[.slice none 0 0,.slice none 0 0,.map none] 168 (0,0))
 hm:PAt W (w0.heap.size+1) c
 hx:W.heap[w0.heap.size+2]?=some (.cells #[cv,ov,.map (some (w0.heap.size+1))] 168 (0,0))
 hc:Rsh w0 W cv cxs
 ho:Rsh w0 W ov oxs
 ap:∀g,cv.ownBlock=some g->ov.ownBlock≠some g
 bel:Below w0.heap.size w0 W
theorem x0D{W:World}{g o}(h:W.heap[g]?=some o):g<W.heap.size:=by grind
theorem Rsh.keep{w0 W W' v}{xs:List Sp}(h:Rsh w0 W v xs)(G:∀g,v.ownBlock=some g->W'.heap[g]?=W.heap[g]?):Rsh w0 W' v xs:=⟨x0w h.1 G,h.2⟩
theorem NI.below{w0 W W'}{c:Int->Int->Option Int}{cv ov}{L B:List Sp}(h:NI w0 W c cv ov L B)(Y:Bw W W'):NI w0 W' c cv ov L B:=by
 obtain⟨d,I,j,N⟩:=h.hm
 exact⟨by rw[Y.block _ (x0D h.hr)];exact h.hr,⟨d,I,by rw[Y.block _ (x0D j)];exact j,N⟩,by rw[Y.block _ (x0D h.hx)];exact h.hx,
  h.hc.keep fun g C=>Y.block g (h.hc.1.lt g C).2,h.ho.keep fun g C=>Y.block g (h.ho.1.lt g C).2,h.ap,bthen h.bel Y⟩
theorem z7R{w0 W v}{xs:List Sp}(h:Rsh w0 W v xs){g}(C:v.ownBlock=some g):∃Q,W.heap[g]?=some (.cells Q 60 (0,0)):=by
 rcases h.1.2 with⟨rfl,_⟩ | ⟨k,A,Q,rfl,_,H,_⟩
 ·cases C
 ·exact T3t
theorem NI.far{w0 W}{c:Int->Int->Option Int}{cv ov v}{L B xs:List Sp}(h:NI w0 W c cv ov L B)(N:Rsh w0 W v xs):∀g,v.ownBlock=some g->g≠w0.heap.size/\g≠w0.heap.size+1/\g≠w0.heap.size+2:=by
 intro g C;obtain⟨Q,f⟩:=z7R N C;refine⟨fun e=>?_,fun e=>?_,fun e=>?_⟩
 ·rw[e,h.hr]at f;simp at f
 ·obtain⟨d,I,j,_⟩:=h.hm;rw[e,j]at f;simp at f
 ·rw[e,h.hx]at f;simp at f
theorem NI.classes{w0 W w1}{c:Int->Int->Option Int}{cv ov v'}{L B:List Sp}{o}{x:Sp}(h:NI w0 W c cv ov L B)(A:Sk .i32 w0 (sval x) x.1.to/\RecFit x.1)
  (F:w1.ownsRow w0.heap.size 60 8 v' (L.length+1) (L.flatMap encR++encR x)) (C:(W.alloc o).grownBy w1 cv.ownBlock) (Q:v'.ownBlock=cv.ownBlock\/v'.ownBlock=some (W.heap.size+1)) :
  w1.heap[w0.heap.size+2]?=some (.cells #[cv,ov,.map (some (w0.heap.size+1))] 168 (0,0))/\NI w0 (w1.setCell ⟨w0.heap.size+2,0,none⟩ v') c v' ov (L++[x]) B:=by
 have S:∀g,g<W.heap.size->(W.alloc o).heap[g]?=W.heap[g]?:=fun g C=>((Below.refl W.heap.size W).alloc (l0r _) _).block g C
 have P:∀g,g<W.heap.size->cv.ownBlock≠some g->w1.heap[g]?=W.heap[g]?:=fun g Z D=>by
  rw[C.block g P8P (fun e=>D e.symm),S g Z]
 have J:=h.far h.hc;have H:w1.heap[w0.heap.size+2]?=some (.cells #[cv,ov,.map (some (w0.heap.size+1))] 168 (0,0)):=T8m
 have X:Rsh w0 w1 v' (L++[x]):=⟨i0O,fun y hy=>by
  rcases List.mem_append.1 hy with hy | hy
  ·exact h.hc.2 y hy
  ·simp only[List.mem_singleton]at hy
   subst hy;exact A⟩
 have hold:∀g,v'.ownBlock=some g->g≠w0.heap.size+2/\ov.ownBlock≠some g:=fun g U=>by
  rcases Q with e | e
  ·rw[e]at U;exact⟨(J g U).2.2,h.ap g U⟩
  ·rw[e]at U;simp at U;have Y:=x0D h.hx;refine⟨f6J,fun R=>?_⟩;have:=(h.ho.1.lt g R).2;omega
 obtain⟨d,I,j,N⟩:=h.hm;refine⟨H,⟨?_,⟨d,I,?_,N⟩,?_,?_,?_,fun g U=>(hold g U).2,?_⟩⟩
 ·exact e0b
 ·exact i4p
 ·rw[x0c H];rfl
 ·exact X.keep fun g U=>by rw[x0e _ (hold g U).1]
 ·refine h.ho.keep fun g U=>?_;rw[x0e _ (h.far h.ho g U).2.2,P g (h.ho.1.lt g U).2 (fun e=>h.ap g e U)]
 ·have b1:Bw w0 w1:=(h.bel.alloc h.bel.size o).grown C (by have:=h.bel.size;exact P8P) (fun k G=>(h.hc.1.lt k G).1);exact x0b b1 f6J v'
theorem NI.opens{w0 W w1}{c:Int->Int->Option Int}{cv ov v'}{L B:List Sp}{o}{x:Sp}(h:NI w0 W c cv ov L B)(A:Sk .i32 w0 (sval x) x.1.to/\RecFit x.1)
  (F:w1.ownsRow w0.heap.size 60 8 v' (B.length+1) (B.flatMap encR++encR x)) (C:(W.alloc o).grownBy w1 ov.ownBlock) (Q:v'.ownBlock=ov.ownBlock\/v'.ownBlock=some (W.heap.size+1)) :
  w1.heap[w0.heap.size+2]?=some (.cells #[cv,ov,.map (some (w0.heap.size+1))] 168 (0,0))/\NI w0 (w1.setCell ⟨w0.heap.size+2,1,none⟩ v') c cv v' L (B++[x]):=by
 have S:∀g,g<W.heap.size->(W.alloc o).heap[g]?=W.heap[g]?:=fun g C=>((Below.refl W.heap.size W).alloc (l0r _) _).block g C
 have P:∀g,g<W.heap.size->ov.ownBlock≠some g->w1.heap[g]?=W.heap[g]?:=fun g Z D=>by
  rw[C.block g P8P (fun e=>D e.symm),S g Z]
 have J:=h.far h.ho;have H:w1.heap[w0.heap.size+2]?=some (.cells #[cv,ov,.map (some (w0.heap.size+1))] 168 (0,0)):=T8m
 have X:Rsh w0 w1 v' (B++[x]):=⟨i0O,fun y hy=>by
  rcases List.mem_append.1 hy with hy | hy
  ·exact h.ho.2 y hy
  ·simp only[List.mem_singleton]at hy
   subst hy;exact A⟩
 have hold:∀g,v'.ownBlock=some g->g≠w0.heap.size+2/\cv.ownBlock≠some g:=fun g U=>by
  rcases Q with e | e
  ·rw[e]at U;exact⟨(J g U).2.2,fun R=>h.ap g R U⟩
  ·rw[e]at U;simp at U;have Y:=x0D h.hx;refine⟨f6J,fun R=>?_⟩;have:=(h.hc.1.lt g R).2;omega
 obtain⟨d,I,j,N⟩:=h.hm;refine⟨H,⟨?_,⟨d,I,?_,N⟩,?_,?_,?_,fun g Z D=>(hold g D).2 Z,?_⟩⟩
 ·exact e0b
 ·exact i4p
 ·rw[x0c H];rfl
 ·refine h.hc.keep fun g U=>?_;rw[x0e _ (h.far h.hc g U).2.2,P g (h.hc.1.lt g U).2 (fun e=>h.ap g U e)]
 ·exact X.keep fun g U=>by rw[x0e _ (hold g U).1]
 ·have b1:Bw w0 w1:=(h.bel.alloc h.bel.size o).grown C (by have:=h.bel.size;exact P8P) (fun k G=>(h.ho.1.lt k G).1);exact x0b b1 f6J v'
theorem NI.upd{w0 W}{c c':Int->Int->Option Int}{cv ov}{L B:List Sp}{d:Array MapEntry}{cl}(h:NI w0 W c cv ov L B)(X:PObj d cl c'):NI w0 (setBlock W (w0.heap.size+1) (.map d cl)) c' cv ov L B:=by
 obtain⟨D,A,j,_⟩:=h.hm;have F:=x0D j;refine⟨by rw[x1F _ _ f6J];exact h.hr,⟨d,cl,y3m _ _ _ F,X⟩,by rw[x1F _ _ f6J];exact h.hx,?_,?_,h.ap,?_⟩
 ·exact h.hc.keep fun g C=>x1F _ _ (h.far h.hc g C).2.1
 ·exact h.ho.keep fun g C=>x1F _ _ (h.far h.ho g C).2.1
 ·exact h.bel.trans (x4F _ W _ _ f6J)
namespace Cn
theorem y8F{k}(h:fam k=2):k=6:=by
 revert h;exact r2C
theorem fam_three'{k}(h:fam k=3):k=7\/k=8:=by
 revert h;exact r2C
def y7f(a b:Rec):Prop:=right a=0/\right b=0/\clash a b=false
theorem x3v{f}(A:f=2\/f=3){l cs}{p:Rec->Bool}(S:(check6 l).2=0)(s:∀r,p r=true↔fam r.kind=f)(W:cs.Perm (l.filter p))(L:cs.Pairwise fun a b=>a.lo<=b.lo):x1u f cs/\∀r,r∈cs↔r∈l/\fam r.kind=f:=by
 obtain⟨_,u,I⟩:=x0k.1 S;have o:∀r,r∈cs↔r∈l/\fam r.kind=f:=fun r=>(by rw[W.mem_iff,List.mem_filter,s]);have Z:l.Pairwise y7f:=I.imp_of_mem fun{a b} ha hb h=>⟨u a ha,u b hb,h⟩;have D:(l.filter p).Pairwise y7f:=Z.filter p;have J:cs.Pairwise y7f:=(W.pairwise_iff (fun{x y} ⟨a,b,c⟩=>⟨b,a,z2D a b c⟩)).2 D;exact⟨y6p A (fun r H=>⟨u r ((o r).1 H).1,((o r).1 H).2⟩) (J.imp fun⟨_,_,c⟩=>c) L,o⟩
end Cn
