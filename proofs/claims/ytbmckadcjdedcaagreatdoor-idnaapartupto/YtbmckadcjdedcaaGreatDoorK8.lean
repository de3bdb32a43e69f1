/- Lemmas. -/
import Derived.Test.YtbmckadcjdedcaaGreatDoorK9
import Derived.Shelf.SlSortCmp.WholeK
import Derived.Test.YtbmckadcjdedcaaGreatDoorK12
set_option maxHeartbeats 8000000
set_option maxRecDepth 8000
namespace Go.Proofs.YtbmckadcjdedcaaGreatDoor
open Go.Proofs.Tryz
open Go.RowKit
section
variable{p:Prop}
theorem m2X(h:p:=by go_wp2_with fail;refine(V K _).mono ?_;rintro e I ⟨rfl,rfl⟩;go_wp2;go_ret;exact⟨rfl,0,_,by rw[alloc_eq_grow,alloc_eq_grow,grow_grow];rfl⟩):p:=h
theorem W5r(h:p:=by simp[Instr.lookup,run_underlying underlying123,MapKept.run_getObj_map Q,pairLaw2.check w _ S,Z,Result.andThen,f]):p:=h
theorem v2W(h:p:=by simp[Instr.lookup,run_underlying J,MapKept.run_getObj_map Q,L.check w _ _ G,Z,Result.andThen,o]):p:=h
theorem M6k(h:p:=by go_enter func132,ntmps132;go_wp2_with fail;refine c0m o fun I J=>?_;have B:Below (w.heap.size+1) _ I:=X.trans (J.mono (by have:=X.size;exact p8J));obtain⟨m,n,q⟩:=V HX I B;have f:∀z,x0c w z (.returned (.bool z)) I:=fun z=>⟨rfl,V Q _ B⟩;have g:=O (V aG I (V Q _ B));go_wp2_with fail;refine c0m g fun d ae=>?_;have A:Below (w.heap.size+1) _ d:=B.trans (ae.mono (by have:=B.size;exact p8J));obtain⟨s,t,u⟩:=V HX d A;have i:∀z,x0c w z (.returned (.bool z)) d:=fun z=>⟨rfl,V Q _ A⟩;have K3:=O (V aH d (V Q _ A));go_wp2_with fail;refine(V K3).mono ?_;rintro e P ⟨aD,rfl,N,F⟩;have C:Below (w.heap.size+1) _ P:=A.trans (F.mono (by have:=A.size;exact p8J));obtain⟨am,ag,rfl,_,_⟩:=(OpB.sk N (V Q _ A) F).shape;obtain⟨ar,D,aw⟩:=V HX P C;have ai:∀z,x0c w z (.returned (.bool z)) P:=fun z=>⟨rfl,V Q _ C⟩;have K4:=O (V aI P (V Q _ C));go_wp2_with fail;refine(V K4).mono ?_;rintro e G ⟨aF,rfl,R,H⟩;have ab:Below (w.heap.size+1) _ G:=C.trans (H.mono (by have:=C.size;exact p8J));obtain⟨ay,aj,rfl,_,_⟩:=(OpB.sk R (V Q _ C) H).shape;obtain⟨az,aA,aB⟩:=V HX G ab;have j:∀z,x0c w z (.returned (.bool z)) G:=fun z=>⟨rfl,V Q _ ab⟩;have K5:=O (V aM G (V Q _ ab));go_wp2_with fail;refine c0m K5 fun w5 aq=>?_;have af:Below (w.heap.size+1) _ w5:=ab.trans (aq.mono (by have:=ab.size;exact p8J));obtain⟨aK,S,aL⟩:=V HX w5 af;have y:∀z,x0c w z (.returned (.bool z)) w5:=fun z=>⟨rfl,V Q _ af⟩;have Y:=y true;go_wp2;go_ret;exact Y):p:=h
theorem f0B(h:p:=by go_wp2;refine wp_loop_rounds 1 ?_;rw[rounds_succ];go_wp2;go_end0;exact g9S):p:=h
theorem r2O(h:p:=by unfold putRowK;rw[size_putRow];rfl):p:=h
theorem N7g(h:p:=by simp[Instr.lookup,run_underlying underlying123,MapKept.run_getObj_map Q,pairLaw2.check w _ S,Z,Result.andThen]):p:=h
theorem m0M(h:p:=by simp only[Value.slice.injEq,Option.some.injEq,Addr.mk.injEq,and_true]at N;obtain⟨rfl,_,_⟩:=N;exact x0e Y):p:=h
theorem m8y(h:p:=by
 (try simp only[Exit.inBlock,Exit.then]);refine bodyPost_ret (results_none rfl _ _ _) rfl ?_
 exact g9S):p:=h
theorem U0Q(h:p:=by simp[Instr.lookup,run_underlying J,MapKept.run_getObj_map Q,L.check w _ _ G,Z,Result.andThen]):p:=h
theorem u4g(h:p:=by go_enter func132,ntmps132;go_wp2_with fail;refine c0m o fun I J=>?_;have B:Below (w.heap.size+1) _ I:=X.trans (J.mono U2w);obtain⟨m,n,q⟩:=V HX I B;have f:∀z,x0c w z (.returned (.bool z)) I:=fun z=>⟨rfl,V Q _ B⟩;have g:=O (V aG I (V Q _ B));go_wp2_with fail;refine c0m g fun d ae=>?_;have A:Below (w.heap.size+1) _ d:=B.trans (ae.mono V4D);obtain⟨s,t,u⟩:=V HX d A;have i:∀z,x0c w z (.returned (.bool z)) d:=fun z=>⟨rfl,V Q _ A⟩;have K3:=O (V aH d (V Q _ A));go_wp2_with fail;refine(V K3).mono ?_;rintro e P ⟨aD,rfl,N,F⟩;have C:Below (w.heap.size+1) _ P:=A.trans (F.mono i6W);obtain⟨am,ag,rfl,_,_⟩:=(OpB.sk N (V Q _ A) F).shape;obtain⟨ar,D,aw⟩:=V HX P C;have ai:∀z,x0c w z (.returned (.bool z)) P:=fun z=>⟨rfl,V Q _ C⟩;have K4:=O (V aI P (V Q _ C));go_wp2_with fail;refine(V K4).mono ?_;rintro e G ⟨aF,rfl,R,H⟩;have ab:Below (w.heap.size+1) _ G:=C.trans (H.mono w8v);obtain⟨ay,aj,rfl,_,_⟩:=(OpB.sk R (V Q _ C) H).shape;obtain⟨az,aA,aB⟩:=V HX G ab;have j:∀z,x0c w z (.returned (.bool z)) G:=fun z=>⟨rfl,V Q _ ab⟩;have Y:=j true;go_wp2;go_ret;exact Y):p:=h
theorem p8J(h:p:=by rw[L]at this;exact f6J):p:=h
theorem i1T(h:p:=by rw[Array.getElem?_append_left f6J];show(w.heap.modify blk _)[k]?=_;rw[Array.getElem?_modify,if_neg (fun e=>F (by rw[e]))]):p:=h
theorem G2Z(h:p:=by rw[ltLo]at *;simp at *;exact f6J):p:=h
theorem p8K(h:p:=by rw[L]at this;exact f6J):p:=h
theorem M2J(h:p:=by rw[B _ (x0B h.hx) (fun e=>(d _ e).2.2 rfl)];exact h.hx):p:=h
theorem U2w(h:p:=by have:=X.size;exact p8K):p:=h
theorem e7t(h:p:=by rw[x0g _ f6J,B _ (x0B h.hr) (fun e=>(d _ e).1 rfl)];exact h.hr):p:=h
theorem V4D(h:p:=by have:=B.size;exact p8K):p:=h
theorem v4g(h:p:=by have P:L.extract 0 xs.toArray.size=L:=(by grind);rw[P]at b;simpa using b):p:=h
theorem g3T(h:p:=by rw[x0g _ f6J,B _ (x0B m) (fun e=>(d _ e).2.1 rfl)];exact m):p:=h
theorem i6W(h:p:=by have:=A.size;exact p8K):p:=h
theorem w8v(h:p:=by have:=C.size;exact p8K):p:=h
end
def Cn.wpair(l:List Rec)(c a b:Int):Bool:=decide (Cn.cls l c≠0)||decide (Cn.cls l a≠0)||decide (Cn.opn l b≠[])||(decide (Cn.opn l a≠[])&&(Cn.prim l a).isNone)||decide (b<128)||decide (a=46)
theorem Cn.pair_w l i r:Cn.pair l i r=(!(Cn.wpair l r.lo (r.to.getD 0 0) (r.to.getD 1 0))&&!((l.take i).any fun k=>decide (k.kind=7/\k.to.getD 0 0=r.to.getD 0 0/\k.to.getD 1 0=r.to.getD 1 0))):=rfl
theorem y9m{zs:List Int}:decide (zs≠[])=decide (0<zs.length):=by
 cases zs<;>simp
theorem OpB.sk{w0 w w1 v zs}(h:Sk .i32 w0 v zs\/Ok .i32 21 w1 w.heap.size v zs)(q:Bw w0 w)(Q:Bw w w1):Sk .i32 w1 v zs:=by
 rcases h with h | h
 ·exact(h.below q).below Q
 ·exact h.sk
theorem z0O l cs os cv ov mr c a b w(hg:Glob w)(h:Idx l w cv ov cs os)(hc:Rune c)(ha:Rune a)(aN:Rune b):Calls prog 132 #[xV cv ov (.map (some mr)),.int .i32 c,.int .i32 a,.int .i32 b] w (x0c w (Cn.wpair l c a b)):=by
 obtain⟨p,Z,rfl,_,_⟩:=h.rc.shape;obtain⟨aJ,aC,rfl,_,_⟩:=h.ro.shape;have hb:Bw w (w.alloc (.cells #[.slice p cs.length Z,.slice aJ os.length aC,.map (some mr)] 125)):=(b0r).alloc (l0r _) _;have L:(w.alloc (.cells #[.slice p cs.length Z,.slice aJ os.length aC,.map (some mr)] 125)).heap.size=w.heap.size+1:=by simp
 have HX:Hid (∀W,Below (w.heap.size+1) (w.alloc (.cells #[.slice p cs.length Z,.slice aJ os.length aC,.map (some mr)] 125)) W->W.cell? ⟨w.heap.size,0,none⟩=some (.slice p cs.length Z)/\W.cell? ⟨w.heap.size,1,none⟩=some (.slice aJ os.length aC)/\W.cell? ⟨w.heap.size,2,none⟩=some (.map (some mr))):=fun W U=>R5x
 have Q:Hid (∀W,Below (w.heap.size+1) (w.alloc (.cells #[.slice p cs.length Z,.slice aJ os.length aC,.map (some mr)] 125)) W->Bw w W):=fun W U=>hb.trans (U.mono f6J);have KC:=O (fun W x (U:Bw w W) (hx:Rune x)=>x8x l cs os _ _ mr x W (hg.on U) (h.below U) hx);have KO:=O (fun W x (U:Bw w W) (hx:Rune x)=>y1v l cs os _ _ mr x w W hg h U hx);have KP:=O (fun W x (U:Bw w W) (hx:Rune x)=>z0U l cs os _ _ mr x W (hg.on U) (h.below U) hx);have o:=O (V KC _ c hb hc);have aG:=O (fun W U=>V KC W a U ha);have aH:=O (fun W U=>V KO W b U aN);have aI:=O (fun W U=>V KO W a U ha);have aM:=O (fun W U=>V KP W a U ha)
 have h0:Cn.wpair l c a b=(decide (Cn.cls l c≠0)||decide (Cn.cls l a≠0)||decide (0<(Cn.opn l b).length)||(decide (0<(Cn.opn l a).length)&&!(Cn.prim l a).isSome)||decide (b<128)||decide (a=46)):=by
  unfold Cn.wpair;rw[y9m,y9m];cases Cn.prim l a<;>rfl
 rw[h0];have X:Below (w.heap.size+1) (w.alloc (.cells #[.slice p cs.length Z,.slice aJ os.length aC,.map (some mr)] 125)) (w.alloc (.cells #[.slice p cs.length Z,.slice aJ os.length aC,.map (some mr)] 125)):=b0r;generalize Cn.cls l c=n1,Cn.cls l a=n2,Cn.opn l b=z3,Cn.opn l a=z4,(Cn.prim l a).isSome=p5 at *;unfold xV at *;by_cases q1:n1≠0
 ·rw[d0t q1];simp only[Bool.true_or];have d1:(n1 != 0)=true:=(by simp[q1]);go_enter func132,ntmps132;go_wp2_with fail;refine c0m o fun I J=>?_;have B:Below (w.heap.size+1) _ I:=X.trans (J.mono U2w);obtain⟨m,n,q⟩:=V HX I B;have f:∀z,x0c w z (.returned (.bool z)) I:=fun z=>⟨rfl,V Q _ B⟩;have Y:=f true;go_wp2;go_ret;exact Y
 ·obtain rfl:n1=0:=f6J;rw[d0f q1];simp only[Bool.false_or];by_cases q2:n2≠0
  ·rw[d0t q2];simp only[Bool.true_or];have d2:(n2 != 0)=true:=(by simp[q2]);go_enter func132,ntmps132;go_wp2_with fail;refine c0m o fun I J=>?_;have B:Below (w.heap.size+1) _ I:=X.trans (J.mono U2w);obtain⟨m,n,q⟩:=V HX I B;have f:∀z,x0c w z (.returned (.bool z)) I:=fun z=>⟨rfl,V Q _ B⟩;have g:=O (V aG I (V Q _ B));go_wp2_with fail;refine c0m g fun d ae=>?_;have A:Below (w.heap.size+1) _ d:=B.trans (ae.mono V4D);obtain⟨s,t,u⟩:=V HX d A;have i:∀z,x0c w z (.returned (.bool z)) d:=fun z=>⟨rfl,V Q _ A⟩;have Y:=i true;go_wp2;go_ret;exact Y
  ·obtain rfl:n2=0:=f6J;rw[d0f q2];simp only[Bool.false_or];by_cases q3:0<z3.length
   ·rw[d0t q3];simp only[Bool.true_or];have d3:(0:Int)<(z3.length:Int):=f6J;go_enter func132,ntmps132;go_wp2_with fail;refine c0m o fun I J=>?_;have B:Below (w.heap.size+1) _ I:=X.trans (J.mono U2w);obtain⟨m,n,q⟩:=V HX I B;have f:∀z,x0c w z (.returned (.bool z)) I:=fun z=>⟨rfl,V Q _ B⟩;have g:=O (V aG I (V Q _ B));go_wp2_with fail;refine c0m g fun d ae=>?_;have A:Below (w.heap.size+1) _ d:=B.trans (ae.mono V4D);obtain⟨s,t,u⟩:=V HX d A;have i:∀z,x0c w z (.returned (.bool z)) d:=fun z=>⟨rfl,V Q _ A⟩;have K3:=O (V aH d (V Q _ A));go_wp2_with fail;refine(V K3).mono ?_;rintro e P ⟨aD,rfl,N,F⟩;have C:Below (w.heap.size+1) _ P:=A.trans (F.mono i6W);obtain⟨am,ag,rfl,_,_⟩:=(OpB.sk N (V Q _ A) F).shape;obtain⟨ar,D,aw⟩:=V HX P C;have ai:∀z,x0c w z (.returned (.bool z)) P:=fun z=>⟨rfl,V Q _ C⟩;have Y:=ai true;go_wp2;go_ret;exact Y
   ·obtain rfl:z3=[]:=List.eq_nil_of_length_eq_zero f6J;rw[d0f q3];simp only[Bool.false_or];by_cases q4:0<z4.length
    ·rw[d0t q4];simp only[Bool.true_and];have d4:(0:Int)<(z4.length:Int):=f6J;cases p5
     ·simp only[Bool.not_false,Bool.true_or];exact M6k
     ·simp only[Bool.not_true,Bool.false_or];by_cases q6:b<128
      ·rw[d0t q6,Bool.true_or];exact M6k
      ·have d6:decide (b<128)=false:=d0f q6;rw[d6,Bool.false_or];by_cases q7:a=46
       ·rw[d0t q7];subst q7;exact M6k
       ·rw[d0f q7];have d7:(a==46)=false:=b0f q7;go_enter func132,ntmps132;go_wp2_with fail;refine c0m o fun I J=>?_;have B:Below (w.heap.size+1) _ I:=X.trans (J.mono U2w);obtain⟨m,n,q⟩:=V HX I B;have f:∀z,x0c w z (.returned (.bool z)) I:=fun z=>⟨rfl,V Q _ B⟩;have g:=O (V aG I (V Q _ B));go_wp2_with fail;refine c0m g fun d ae=>?_;have A:Below (w.heap.size+1) _ d:=B.trans (ae.mono V4D);obtain⟨s,t,u⟩:=V HX d A;have i:∀z,x0c w z (.returned (.bool z)) d:=fun z=>⟨rfl,V Q _ A⟩;have K3:=O (V aH d (V Q _ A));go_wp2_with fail;refine(V K3).mono ?_;rintro e P ⟨aD,rfl,N,F⟩;have C:Below (w.heap.size+1) _ P:=A.trans (F.mono i6W);obtain⟨am,ag,rfl,_,_⟩:=(OpB.sk N (V Q _ A) F).shape;obtain⟨ar,D,aw⟩:=V HX P C;have ai:∀z,x0c w z (.returned (.bool z)) P:=fun z=>⟨rfl,V Q _ C⟩;have K4:=O (V aI P (V Q _ C));go_wp2_with fail;refine(V K4).mono ?_;rintro e G ⟨aF,rfl,R,H⟩;have ab:Below (w.heap.size+1) _ G:=C.trans (H.mono w8v);obtain⟨ay,aj,rfl,_,_⟩:=(OpB.sk R (V Q _ C) H).shape;obtain⟨az,aA,aB⟩:=V HX G ab;have j:∀z,x0c w z (.returned (.bool z)) G:=fun z=>⟨rfl,V Q _ ab⟩;have K5:=O (V aM G (V Q _ ab));go_wp2_with fail;refine c0m K5 fun w5 aq=>?_;have af:Below (w.heap.size+1) _ w5:=ab.trans (aq.mono (by have:=ab.size;exact p8K));obtain⟨aK,S,aL⟩:=V HX w5 af;have y:∀z,x0c w z (.returned (.bool z)) w5:=fun z=>⟨rfl,V Q _ af⟩;have Y:=y false;go_wp2;go_ret;exact Y
    ·obtain rfl:z4=[]:=List.eq_nil_of_length_eq_zero f6J;rw[d0f q4];simp only[Bool.false_and,Bool.false_or];by_cases q6:b<128
     ·rw[d0t q6,Bool.true_or];exact u4g
     ·have d6:decide (b<128)=false:=d0f q6;rw[d6,Bool.false_or];by_cases q7:a=46
      ·rw[d0t q7];subst q7;exact u4g
      ·rw[d0f q7];have d7:(a==46)=false:=b0f q7;go_enter func132,ntmps132;go_wp2_with fail;refine c0m o fun I J=>?_;have B:Below (w.heap.size+1) _ I:=X.trans (J.mono U2w);obtain⟨m,n,q⟩:=V HX I B;have f:∀z,x0c w z (.returned (.bool z)) I:=fun z=>⟨rfl,V Q _ B⟩;have g:=O (V aG I (V Q _ B));go_wp2_with fail;refine c0m g fun d ae=>?_;have A:Below (w.heap.size+1) _ d:=B.trans (ae.mono V4D);obtain⟨s,t,u⟩:=V HX d A;have i:∀z,x0c w z (.returned (.bool z)) d:=fun z=>⟨rfl,V Q _ A⟩;have K3:=O (V aH d (V Q _ A));go_wp2_with fail;refine(V K3).mono ?_;rintro e P ⟨aD,rfl,N,F⟩;have C:Below (w.heap.size+1) _ P:=A.trans (F.mono i6W);obtain⟨am,ag,rfl,_,_⟩:=(OpB.sk N (V Q _ A) F).shape;obtain⟨ar,D,aw⟩:=V HX P C;have ai:∀z,x0c w z (.returned (.bool z)) P:=fun z=>⟨rfl,V Q _ C⟩;have K4:=O (V aI P (V Q _ C));go_wp2_with fail;refine(V K4).mono ?_;rintro e G ⟨aF,rfl,R,H⟩;have ab:Below (w.heap.size+1) _ G:=C.trans (H.mono w8v);obtain⟨ay,aj,rfl,_,_⟩:=(OpB.sk R (V Q _ C) H).shape;obtain⟨az,aA,aB⟩:=V HX G ab;have j:∀z,x0c w z (.returned (.bool z)) G:=fun z=>⟨rfl,V Q _ ab⟩;have Y:=j false;go_wp2;go_ret;exact Y
open Go.RowKit Go.Sort Go.Shelf
abbrev Sp:=Rec×Option Addr×Nat×Nat
def sval(x:Sp):Value:=.slice x.2.1 x.2.2.1 x.2.2.2
def encR(x:Sp):List Value:=x0y (x.1,sval x)
theorem y3t(x:Sp):(encR x).length=8:=rfl
theorem x8L(x:Sp):∀v∈encR x,v.oneCell'=true:=x6W x.1 rfl
def loOf(x y:Sp):Int:=Lib.compareInt x.1.lo y.1.lo
theorem ltLo(x y:Sp):ltOf loOf x y=decide (x.1.lo<y.1.lo):=by
 unfold ltOf loOf Lib.compareInt;by_cases Z:x.1.lo<y.1.lo
 ·simp[Z]
 ·grind
theorem swoLo:SWO (ltOf loOf):={
 irrefl:=fun x=>by rw[ltLo];exact M7L
 trans:=fun x y z Z D=>G2Z
 ntrans:=fun x y z Z D=>G2Z }
theorem z1u(x y:Sp) W:Calls prog 128 #[.agg (encR x).toArray,.agg (encR y).toArray] W fun e w'=>e=.returned (.int .i64 (loOf x y))/\∃q A,w'=grow (W.drewN q) A:=by
 have K:=O (fun W=>x2X x.1.lo y.1.lo W);have e:Lib.compareInt x.1.lo y.1.lo=loOf x y:=rfl;rw[e]at K;obtain⟨a,R,B,F⟩:=x;obtain⟨b,G,D,C⟩:=y;show Calls prog 128 #[.agg #[.int .i64 a.kind,.int .i64 a.lo,.int .i64 a.hi,.int .i64 a.n,.slice R B F,.string a.name,.string a.other,.float .f64 a.wt],.agg #[.int .i64 b.kind,.int .i64 b.lo,.int .i64 b.hi,.int .i64 b.n,.slice G D C,.string b.name,.string b.other,.float .f64 b.wt]] W _;go_enter func128,ntmps128;exact m2X
def z7o(w0:World)(xs:List Sp):Prop:=∀x∈xs,Sk .i32 w0 (sval x) x.1.to/\RecFit x.1
def Rsh(w0 w:World)(v:Value)(xs:List Sp):Prop:=w.ownsRow w0.heap.size 67 8 v xs.length (xs.flatMap encR)/\z7o w0 xs
def Rsx(w0 w:World)(v:Value)(xs:List Sp):Prop:=z7o w0 xs/\((xs=[]/\∃ao cap,v=.slice ao 0 cap/\cap<=9223372036854775807) \/
 ∃blk cap,v=.slice (some ⟨blk,0,none⟩) xs.length cap/\w0.heap.size<=blk/\blk<w.heap.size/\xs.length<=cap/\cap<=9223372036854775807/\∀i j,i<xs.length->j<8->w.cell? ⟨blk,i*8+j,none⟩=some ((encR (xs.getD i (Cn.none,none,0,0)))[j]!))
theorem y2d(xs:List Sp):xs.flatMap encR=rcells (xs.map fun x=>(x.1,sval x)):=by
 induction xs with
 | nil=>rfl
 | cons x xs ih=>rw[List.flatMap_cons,ih];rfl
theorem x8P(xs:List Sp) i j(hi:i<xs.length)(A:j<8):(xs.flatMap encR)[i*8+j]?=some ((encR (xs.getD i (Cn.none,none,0,0)))[j]!):=by
 rw[y2d,x1v _ i j w3y A];have e:(xs.map fun x=>(x.1,sval x)).getD i (Cn.none,undef)=((xs.getD i (Cn.none,none,0,0)).1,sval (xs.getD i (Cn.none,none,0,0))):=(by grind);rw[e];show(encR (xs.getD i (Cn.none,none,0,0)))[j]?=_;have S:=y3t (xs.getD i (Cn.none,none,0,0));rw[List.getElem?_eq_getElem (by rw[S];exact A),getElem!_pos _ j (by rw[S];exact A)]
theorem Rsx.keep{w0 w w' v}{xs:List Sp}(h:Rsx w0 w v xs)(X:w.heap.size<=w'.heap.size)(G:∀g,v.ownBlock=some g->w'.heap[g]?=w.heap[g]?):Rsx w0 w' v xs:=by
 refine⟨h.1,?_⟩;rcases h.2 with D | ⟨blk,A,rfl,Z,D,R,B,H⟩
 ·exact .inl D
 ·exact .inr ⟨blk,A,rfl,Z,f6J,R,B,fun i j hi C=>by rw[World.cell?_of_block (G blk rfl)];exact H i j hi C⟩
theorem Rsx.rcs{w0 w v}{xs:List Sp}(h:Rsx w0 w v xs)(q:Bw w0 w)(S:xs.length<=1000000000):Rcs w v (xs.map (·.1)):=by
 refine⟨t2Y,fun r u=>?_,?_⟩
 ·obtain⟨x,J,rfl⟩:=List.mem_map.1 u;exact(h.1 x J).2
 ·rcases h.2 with⟨rfl,R,A,rfl,F⟩ | ⟨blk,A,rfl,Z,D,B,C,H⟩
  ·exact .inl ⟨rfl,R,A,rfl,F⟩
  ·refine .inr ⟨blk,0,A,M7L,by simpa using B,C,fun i hi=>?_⟩;rw[List.length_map]at hi;have e:(xs.map (·.1)).getD i Cn.none=(xs.getD i (Cn.none,none,0,0)).1:=(by grind);have y:xs.getD i (Cn.none,none,0,0)∈xs:=(by grind);rw[e,Nat.zero_add];exact⟨H i 0 hi f6J,H i 1 hi f6J,H i 2 hi f6J,H i 3 hi f6J,⟨_,H i 4 hi f6J,(h.1 _ y).1.below q⟩,H i 5 hi f6J,H i 6 hi f6J,H i 7 hi f6J⟩
theorem Rsh.rsx{w0 w v}{xs:List Sp}(h:Rsh w0 w v xs):Rsx w0 w v xs:=by
 refine⟨h.2,?_⟩;have Z:=h.1;rcases h.1.2 with⟨rfl,A⟩ | ⟨g,B,t,rfl,C,Y,G,F,a,I⟩
 ·grind
 ·refine .inr ⟨g,B,rfl,C,(Z.lt g rfl).2,G,S7V,fun i j hi D=>?_⟩;have e:=Z.cells (g:=g) rfl (i*8+j) _ (x8P xs i j hi D);rw[addr_add,Nat.zero_add]at e;exact e
theorem Rsh.holds[Inhabited Rec]{w0 w}{xs:List Sp}{g cap}(h:Rsh w0 w (.slice (some ⟨g,0,none⟩) xs.length cap) xs):HoldsK encR 8 w g 0 xs.toArray:=by
 intro j B;rw[size_flatK]at B;have A:j<xs.length*8:=(by simpa using B);rw[get_flatK _ _ _ _ B];have hd:j / 8<xs.length:=f6J
 have e:=h.1.cells (g:=g) rfl j _ (by
  have:=x8P xs (j / 8) (j%8) hd f6J;rw[(f6J:j / 8*8+j%8=j)]at this
  exact this)
 rw[addr_add,Nat.zero_add]at e;have C:xs.toArray[j / 8]! = xs.getD (j / 8) (Cn.none,none,0,0):=(by grind);rw[C,Nat.zero_add];refine⟨e,?_⟩;rcases h.1.2 with⟨N,_⟩ | ⟨S,J,t,N,_,Y,_⟩
 ·simp at N
 ·exact m0M
theorem y6g[Inhabited Rec]{w:World}{blk n}{d:Array Sp}{Q:Array Obj}:w.grownBy (sortWorldK encR 8 w blk 0 n d Q) (some blk):=by
 refine⟨rfl,rfl,rfl,?_,fun k G F=>?_⟩
 ·show w.heap.size<=((putRowK encR 8 (Sort.ahead w n) blk 0 d).heap++Q).size;rw[Array.size_append];have:(putRowK encR 8 (Sort.ahead w n) blk 0 d).heap.size=w.heap.size:=r2O;omega
 ·show((putRowK encR 8 (Sort.ahead w n) blk 0 d).heap++Q)[k]?=_;have X:(putRowK encR 8 (Sort.ahead w n) blk 0 d).heap.size=w.heap.size:=r2O;exact i1T
theorem z5N p cap fv w:Calls prog 218 #[.slice p 0 cap,.int .i64 0,.int .i64 0,fv] w fun e w'=>e=.returned (.tuple #[])/\w'=w:=by
 go_enter func218,ntmps218;exact f0B
theorem z6u p cap lim fv w:Calls prog 170 #[.slice p 0 cap,.int .i64 0,.int .i64 0,.int .i64 lim,fv] w fun e w'=>e=.returned (.tuple #[])/\w'=w:=by
 have hi:=fun W=>z5N p cap fv W;go_enter func170,ntmps170;go_wp2;refine wp_loop_rounds 1 ?_;rw[rounds_succ];go_wp2_with(go_at_call 218;refine(hi _).mono ?_;rintro e w' ⟨rfl,rfl⟩)
 exact m8y
theorem z3d p cap fv w:Calls prog 127 #[.slice p 0 cap,fv] w fun e w'=>e=.returned (.tuple #[])/\w'=w:=by
 have S:∀W,Calls prog 171 #[.int .u64 0] W fun e w'=>e=.returned (.int .i64 0)/\w'=W:=fun W =>
  Any.bits_Len (SlLaysF0.n15.bits (P:=prog) (ρ:=Tryz.lays127_ren) { Tryz.lays127 with }) 0 W f6J f6J
 have L:=fun A W=>z6u p cap A fv W;go_enter func127,ntmps127;go_wp2_with(first| (go_at_call 171;refine(S _).mono ?_;rintro e w' ⟨rfl,rfl⟩)|(go_at_call 170;refine(L _ _).mono ?_;rintro e w' ⟨rfl,rfl⟩));go_end0;exact⟨rfl,rfl⟩
def SortB(w0 w:World)(v:Value)(xs:List Sp)(e:Ending)(w':World):Prop:=e=.returned (.tuple #[])/\∃xs':List Sp,xs'.Perm xs/\(xs'.Pairwise fun a b=>a.1.lo<=b.1.lo)/\Rsx w0 w' v xs'/\w.grownBy w' v.ownBlock
theorem y4e w0 w v(xs:List Sp)(h:Rsh w0 w v xs)(S:xs.length<=1000000000):Calls prog 127 #[v,.func (.func 128) #[] #[]] w (SortB w0 w v xs):=by
 have q:Inhabited Rec:=⟨Cn.none⟩;rcases h.1.2 with⟨rfl,A⟩ | ⟨g,B,t,rfl,C,Y,s,F,a,I⟩
 ·obtain rfl:xs=[]:=List.eq_nil_of_length_eq_zero A;refine(z3d none 0 _ w).mono ?_;rintro e l ⟨rfl,rfl⟩;exact⟨rfl,[],List.Perm.refl _,.nil,h.rsx,⟨rfl,rfl,rfl,l0r _,fun _ _ _=>rfl⟩⟩
 ·have H:=(h.1.lt g rfl).2;have d:=h.holds;have Z:∀D w,(callFunc 128 D).run prog w=.ok (.enter 128 D) w:=enters_of func128 f4z rfl;have N:CmpLays prog 128 #[] encR 8 loOf g 0 xs.toArray.size w:=fun _ _ _ _ x y=>z1u x y _;have o:∀w,(isAgg 67).run prog w=.ok true w:=Tryz.isAgg67;have u:∀w,(Go.sizeOf 67).run prog w=.ok 8 w:=Tryz.sizeOf67;have K:=AnyQ.slices_SortFunc Tryz.lays127 8 o u encR y3t x8L loOf swoLo 128 #[] g 0 B xs.toArray w Z N d H P8P;change Calls prog 127 #[.slice (some ⟨g,0,none⟩) xs.length B,_] w _ at K;refine K.mono ?_;rintro e l ⟨rfl,L,n,Q,⟨R,_,b⟩,X,rfl⟩;have f:L.size=xs.length:=by simpa using R
  have W:L.toList.Perm xs:=v4g
  have U:SWK encR 8 w g 0 L (sortWorldK encR 8 w g 0 n L Q):=⟨n,Q,rfl⟩;have G:=U.holds H d R;refine⟨rfl,L.toList,W,?_,⟨fun x J=>h.2 x (W.mem_iff.1 J),.inr ⟨g,B,by rw[show L.toList.length=xs.length by simpa using f],C,U.lt H,by rw[Array.length_toList,f];exact s,S7W,fun i j hi m=>?_⟩⟩,y6g⟩
  ·rw[List.pairwise_iff_getElem];intro i j hi m p;have:=X i j (Nat.zero_le _) p (by simp at m ⊢;exact f6J);rw[ltLo,decide_eq_false_iff_not]at this;rw[getElem!_pos L j (by simpa using m),getElem!_pos L i w3D]at this;simp only[Array.getElem_toList];omega
  ·rw[Array.length_toList]at hi;have:=(G.cell (i:=i) (c:=j) hi m).1;rw[Nat.zero_add]at this;rw[this,getElem!_pos L i hi];exact n7B
open Go.RowKit Go.MapKept Go.WideMaps
open Go.ChangeMaps (setBlock)
theorem pairLaw2:KeyLaw prog 195:=deep_law_laid x5Z (m:=3) e8N (o0d f4x) f4x f4x
def pk2(a b:Int):Value:=.agg #[.int .i32 a,.int .i32 b]
theorem y3m:prog.cellsOf 195=2:=f4x
theorem y7e:prog.cellsOf 21=1:=f4x
theorem y5r:prog.keyType 195=true:=f4x
theorem x3s{a}(h:Rune a) D:prog.keyLits (D+1) 21 [.int .i32 a]=some [.int .i32 a]:=by
 rw[Program.keyLits.eq_def];simp only[underlying21]
 have q:(Lit.int .i32 a).wf=true:=by
  unfold Rune at h;exact w7O
 rw[if_pos ⟨trivial,q⟩]
theorem y2o{a b}(H:Rune a)(Q:Rune b) D:prog.keyLits (D+2) 195 [.int .i32 a,.int .i32 b]=some [.int .i32 a,.int .i32 b]:=by
 rw[Program.keyLits.eq_def];simp only[underlying195,y3m,y7e];rw[if_pos (show[Value.int .i32 a,Value.int .i32 b].length=2 from rfl)];have e:List.range 2=[0,1]:=rfl;rw[e];simp[List.mapM_cons,x3s H D,x3s Q D]
theorem y2y{a b}(H:Rune a)(Q:Rune b):∃l,keyOf prog 195 (pk2 a b)=some l:=by
 have U:(pk2 a b).formed prog 195=true:=by
  simp[pk2,Value.formed,underlying195,y3m]
 obtain⟨n,A⟩:∃n,prog.types.size+1=n+2:=⟨prog.types.size-1,m4z⟩;refine⟨.string (keyBytes [.int .i32 a,.int .i32 b]),?_⟩;unfold keyOf;simp only[underlying195,y5r,U,Bool.and_self,if_true,A];show(prog.keyLits (n+2) 195 [.int .i32 a,.int .i32 b]).map _=_;rw[y2o H Q n];rfl
theorem y9C{a b a' b'}(h:pk2 a b=pk2 a' b'):a=a'/\b=b':=by
 unfold pk2 at h;exact S4r
structure PObj(es:Array MapEntry)(clock:Nat)(c:Int->Int->Option Int):Prop where
 st:Stamped es clock
 keys:∀x∈es.toList,∃a b n,x.key=pk2 a b/\x.val=.int .i64 n/\c a b=some n/\Rune a/\Rune b
 none:∀a b,(∀x∈es.toList,x.key≠pk2 a b)->c a b=none
def PAt(w:World)(r:Nat)(c:Int->Int->Option Int):Prop:=∃es clock,w.heap[r]?=some (.map es clock)/\PObj es clock c
theorem PObj.ks{Y:Array MapEntry}{clock}{c:Int->Int->Option Int}(h:PObj Y clock c):∀x∈Y.toList,∃l,keyOf prog 195 x.key=some l:=fun x J=>by
 obtain⟨a,b,n,e,_,_,H,Q⟩:=h.keys x J;rw[e];exact y2y H Q
theorem z8T:PObj #[] 0 (fun _ _=>none):=⟨⟨fun x J=>by simp at J,M7K,M7K⟩,fun x J=>by simp at J,fun _ _ _=>rfl⟩
theorem look_ok{w r}{c:Int->Int->Option Int}(h:PAt w r c){a b}(H:Rune a)(A:Rune b) :
  (Instr.lookup 123 (.map (some r)) (pk2 a b) true).run prog w=.ok (.tuple #[.int .i64 ((c a b).getD 0),.bool (c a b).isSome]) w/\(Instr.lookup 123 (.map (some r)) (pk2 a b) false).run prog w=.ok (.int .i64 ((c a b).getD 0)) w:=by
 obtain⟨Y,clock,Q,h⟩:=h;obtain⟨l,S⟩:=y2y H A;rcases pairLaw2.find w S Y.toList h.ks with⟨Z,D⟩ | ⟨j,B,Z,D,R⟩
 ·rw[h.none a b D];refine⟨?_,?_⟩
  ·exact N7g
  ·exact N7g
 ·obtain⟨L,C,n,P,f,J,_,_⟩:=h.keys B (List.mem_of_getElem? D);obtain⟨rfl,rfl⟩:=y9C (P.symm.trans R);rw[J];refine⟨?_,?_⟩
  ·exact W5r
  ·exact W5r
def setP(c:Int->Int->Option Int)(a b n:Int):Int->Int->Option Int:=fun x y=>if x=a/\y=b then some n else c x y
theorem y6b{w r}{c:Int->Int->Option Int}(h:PAt w r c){a b}(H:Rune a)(A:Rune b)(I:c a b=none) n :
  ∃B q,(Instr.mapUpdate 123 (.map (some r)) (pk2 a b) (.int .i64 n)).run prog w=.ok () (setBlock w r (.map B q))/\PObj B q (setP c a b n):=by
 obtain⟨Y,clock,Q,h⟩:=h;obtain⟨l,S⟩:=y2y H A;rcases pairLaw2.find w S Y.toList h.ks with⟨Z,D⟩ | ⟨j,N,Z,D,R⟩
 ·refine⟨Y.push ⟨pk2 a b,.int .i64 n,clock⟩,clock+1,?_,⟨stamped_push h.st D,fun x C=>?_,fun L F G=>?_⟩⟩
  ·simp[Instr.mapUpdate,run_underlying underlying123,MapKept.run_getObj_map Q,pairLaw2.check w false S,Z,MapKept.run_setObj_map _ Q,Result.andThen,setBlock]
  ·simp only[Array.toList_push,List.mem_append,List.mem_singleton]at C;rcases C with C | rfl
   ·obtain⟨L,F,m,P,f,J,o⟩:=h.keys x C;refine⟨L,F,m,P,f,?_,o⟩;unfold setP;rw[if_neg,J];rintro⟨rfl,rfl⟩;rw[I]at J;cases J
   ·exact⟨a,b,n,rfl,rfl,by unfold setP;rw[if_pos ⟨rfl,rfl⟩],H,A⟩
  ·unfold setP;rw[if_neg]
   ·exact h.none L F fun x C=>G x (by simp[C])
   ·rintro⟨rfl,rfl⟩;exact G ⟨pk2 L F,.int .i64 n,clock⟩ M7K rfl
 ·obtain⟨L,F,m,P,f,J,_,_⟩:=h.keys N (List.mem_of_getElem? D);obtain⟨rfl,rfl⟩:=y9C (P.symm.trans R);rw[I]at J;cases J
theorem x8k r vt w(N:Sk .i32 w vt r.to)(D:r.to.length=2):Calls prog 126 #[recV r vt] w fun e w'=>e=.returned (pk2 (r.to.getD 0 0) (r.to.getD 1 0))/\Bw w w':=by
 obtain⟨b,P,F,rfl,_,I,X⟩:=N.place f6J;have G:=X 0 f6J;have m:=X 1 f6J;rw[Nat.add_zero]at G;have H:=x0a G;have A:∀W,Bw w W->W.cell? ⟨b,P,none⟩=some (.int .i32 (r.to.getD 0 0)):=fun W h=>(by rw[h.cell H];exact G);have B:∀W,Bw w W->W.cell? ⟨b,P+1,none⟩=some (.int .i32 (r.to.getD 1 0)):=fun W h=>(by rw[h.cell H];exact m);have l:Bw w ((w.alloc (.cells #[.int .i64 r.kind,.int .i64 r.lo,.int .i64 r.hi,.int .i64 r.n,.slice (some ⟨b,P,none⟩) 2 F,.string r.name,.string r.other,.float .f64 r.wt] 67)).alloc (.cells #[.int .i32 0,.int .i32 0] 195)):=((b0r).alloc (l0r _) _).alloc M7M _;have x:=A _ l;have a:=B _ l;rw[D];unfold recV pk2;generalize r.to.getD 0 0=p,r.to.getD 1 0=q at *;go_enter func126,ntmps126;go_wp2;go_region;go_wp2;go_returns;exact⟨rfl,(((b0r).alloc (l0r _) _).alloc M7M _).trans ((x0k ⟨1,rfl⟩).mono P8P)⟩
open Go.RowKit Go.MapKept Go.WideMaps
open Go.ChangeMaps (setBlock)
structure KL(T:TypeId)(K:Value->Prop):Prop where
 check:∀(w:World) (em:Bool) (v:Value),K v->(Instr.checkKey em 10000 T v).run prog w=.ok () w
 find:∀(w:World) (x:Value),K x->∀es:List MapEntry,(∀e∈es,K e.key)->((Instr.findKey T x es).run prog w=.ok none w/\∀e∈es,e.key≠x)\/∃j e,(Instr.findKey T x es).run prog w=.ok (some (j,e.val)) w/\es[j]?=some e/\e.key=x
 stays:∀(w:World) (v:Value),K v->(Instr.keyThatStays v v).run prog w=.ok v w
theorem KL.of{T}{K:Value->Prop}(h:KeyLaw prog T)(G:∀v,K v->∃l,keyOf prog T v=some l):KL T K :=
 ⟨fun w B v N=>by obtain⟨l,S⟩:=G v N;exact h.check w B S,fun w x J Y A=>by obtain⟨l,S⟩:=G x J;exact h.find w S Y (fun e d=>G _ (A e d)),fun w v N=>by obtain⟨l,S⟩:=G v N;exact h.stays w S⟩
structure GObj(K:Value->Prop)(es:Array MapEntry)(clock:Nat)(c:Value->Option Value):Prop where
 st:Stamped es clock
 keys:∀x∈es.toList,K x.key/\c x.key=some x.val
 none:∀k,(∀x∈es.toList,x.key≠k)->c k=none
def GAt(K:Value->Prop)(w:World)(r:Nat)(c:Value->Option Value):Prop:=∃es clock,w.heap[r]?=some (.map es clock)/\GObj K es clock c
theorem y8q(K:Value->Prop)(c:Value->Option Value)(h:∀k,c k=none):GObj K #[] 0 c:=⟨stamped_empty 0,fun x J=>by simp at J,fun k _=>h k⟩
section
variable {T M E:TypeId} {K:Value->Prop} {c c':Value->Option Value} {w:World} {r:Nat} {k z v:Value}
theorem z3G(L:KL T K)(J:prog.underlying M=some (.map T E))(o:∀w,(zeroValue E).run prog w=.ok z w)(h:GAt K w r c)(G:K k) :
  (Instr.lookup M (.map (some r)) k true).run prog w=.ok (.tuple #[(c k).getD z,.bool (c k).isSome]) w/\(Instr.lookup M (.map (some r)) k false).run prog w=.ok ((c k).getD z) w:=by
 obtain⟨Y,clock,Q,h⟩:=h;rcases L.find w k G Y.toList (fun e d=>(h.keys e d).1)with⟨Z,D⟩ | ⟨j,A,Z,D,R⟩
 ·rw[h.none k D];refine⟨?_,?_⟩
  ·exact v2W
  ·exact v2W
 ·have P:=(h.keys A (List.mem_of_getElem? D)).2;rw[R]at P;rw[P];refine⟨?_,?_⟩
  ·exact U0Q
  ·exact U0Q
theorem x8R(L:KL T K)(N:prog.underlying M=some (.map T E))(h:GAt K w r c)(G:K k)(Z:c' k=some v)(D:∀x,x≠k->c' x=c x) :
  ∃B q,(Instr.mapUpdate M (.map (some r)) k v).run prog w=.ok () (setBlock w r (.map B q))/\GObj K B q c':=by
 obtain⟨Y,clock,Q,h⟩:=h;rcases L.find w k G Y.toList (fun e d=>(h.keys e d).1)with⟨t,S⟩ | ⟨j,I,t,S,g⟩
 ·refine⟨Y.push ⟨k,v,clock⟩,clock+1,?_,⟨stamped_push h.st S,fun x J=>?_,fun x H=>?_⟩⟩
  ·simp[Instr.mapUpdate,run_underlying N,MapKept.run_getObj_map Q,L.check w false _ G,t,MapKept.run_setObj_map _ Q,Result.andThen,setBlock]
  ·simp only[Array.toList_push,List.mem_append,List.mem_singleton]at J;rcases J with J | rfl
   ·refine⟨(h.keys x J).1,?_⟩;rw[D _ (S x J)];exact(h.keys x J).2
   ·exact⟨G,Z⟩
  ·have A:x≠k:=fun e=>H ⟨k,v,clock⟩ M7K e.symm;rw[D x A];exact h.none x fun y s=>H y e7v
 ·have C:Y[j]?=some I:=t2X;have R:j<Y.size:=(Array.getElem?_eq_some_iff.1 C).1;refine⟨Y.modify j fun e=>{ e with key:=k,val:=v },clock,?_,⟨stamped_modify h.st j _ (fun _ _=>rfl) (fun e _ d=>?_),fun x J=>?_,fun x H=>?_⟩⟩
  ·simp[Instr.mapUpdate,run_underlying N,MapKept.run_getObj_map Q,L.check w false _ G,t,C,g,L.stays w _ G,MapKept.run_setObj_map _ Q,Result.andThen,setBlock]
  ·rw[C]at d;cases d;exact g.symm
  ·obtain⟨i,hi⟩:=List.getElem?_of_mem J;rw[Array.getElem?_toList,Array.getElem?_modify]at hi;by_cases p:j=i
   ·grind
   ·rw[if_neg p]at hi;have U:x∈Y.toList:=List.mem_of_getElem? (by rw[Array.getElem?_toList];exact hi)
    have A:x.key≠k:=fun e=>by
     have F:=h.st.2.2;have P:(Y.toList.map (·.key))[i]?=some k:=(by rw[List.getElem?_map,Array.getElem?_toList,hi,Option.map_some,e]);have f:(Y.toList.map (·.key))[j]?=some k:=(by rw[List.getElem?_map,Array.getElem?_toList,C,Option.map_some,g]);have b:i<(Y.toList.map (·.key)).length:=(List.getElem?_eq_some_iff.1 P).1;exact p ((List.getElem?_inj b F).1 (P.trans f.symm)).symm
    rw[D _ A];exact h.keys x U
  ·have A:x≠k:=fun e=>by
    have X:(⟨k,v,I.born⟩:MapEntry)∈(Y.modify j fun e=>{ e with key:=k,val:=v }).toList:=by
     refine List.mem_of_getElem? (i:=j) ?_;rw[Array.getElem?_toList,Array.getElem?_modify,if_pos rfl,C];rfl
    exact H _ X e.symm
   rw[D x A];refine h.none x fun y s=>?_;obtain⟨i,hi⟩:=List.getElem?_of_mem s;rw[Array.getElem?_toList]at hi;by_cases p:j=i
   ·subst p;rw[C]at hi;cases hi;rw[g];exact fun e=>A e.symm
   ·refine H y (List.mem_of_getElem? (i:=i) ?_);rw[Array.getElem?_toList,Array.getElem?_modify,if_neg p];exact hi
end
namespace Cn
def isP(a b:Int)(r:Rec):Bool:=decide (r.kind=7/\r.to.getD 0 0=a/\r.to.getD 1 0=b)
def firstP(l:List Rec)(a b:Int):Option Int:=(l.findIdx? (isP a b)).map Int.ofNat
theorem x3M l r a b:firstP (l++[r]) a b=(firstP l a b).or (if isP a b r then some (l.length:Int)else Option.none):=by
 unfold firstP;rw[List.findIdx?_append]
 cases h:l.findIdx? (isP a b)with
 | some n=>simp
 | none=>grind
theorem x2Z{l r}(h:r.kind≠7):firstP (l++[r])=firstP l:=by
 funext a b;rw[x3M,show isP a b r=false by unfold isP;exact d0f (fun q=>h q.1)];simp
theorem y0m{l r}(G:(firstP l (r.to.getD 0 0) (r.to.getD 1 0)).isSome=true):firstP (l++[r])=firstP l:=by
 funext a b;rw[x3M];by_cases h:isP a b r=true
 ·obtain⟨_,rfl,rfl⟩:=o0d h;obtain⟨n,A⟩:=Option.isSome_iff_exists.1 G;rw[A];rfl
 ·rw[if_neg h];simp
theorem y5e{l r}(F:r.kind=7)(G:firstP l (r.to.getD 0 0) (r.to.getD 1 0)=Option.none):firstP (l++[r])=setP (firstP l) (r.to.getD 0 0) (r.to.getD 1 0) (l.length:Int):=by
 funext a b;rw[x3M];unfold setP;by_cases h:a=r.to.getD 0 0/\b=r.to.getD 1 0
 ·obtain⟨rfl,rfl⟩:=h;rw[G,show isP (r.to.getD 0 0) (r.to.getD 1 0) r=true from d0t ⟨F,rfl,rfl⟩];simp
 ·rw[if_neg h,show isP a b r=false from d0f (fun q=>h ⟨q.2.1.symm,q.2.2.symm⟩)];simp
theorem y8c{l i}(hi:i<l.length)(F:(l.getD i none).kind=7):((firstP l ((l.getD i none).to.getD 0 0) ((l.getD i none).to.getD 1 0)).getD 0<(i:Int))↔((l.take i).any fun k=>decide (k.kind=7/\k.to.getD 0 0=(l.getD i none).to.getD 0 0/\k.to.getD 1 0=(l.getD i none).to.getD 1 0))=true:=by
 have Z:l.getD i none=l[i]:=getD_at hi
 have L:isP ((l.getD i none).to.getD 0 0) ((l.getD i none).to.getD 1 0) l[i]=true:=by
  rw[Z]at F ⊢;exact d0t ⟨F,rfl,rfl⟩
 generalize(l.getD i none).to.getD 0 0=a,(l.getD i none).to.getD 1 0=b at *;have A:((l.take i).any fun k=>decide (k.kind=7/\k.to.getD 0 0=a/\k.to.getD 1 0=b))=(l.take i).any (isP a b):=rfl;rw[A];unfold firstP
 cases hf:l.findIdx? (isP a b)with
 | none=>grind
 | some n =>
  obtain⟨I,d,B⟩:=List.findIdx?_eq_some_iff_getElem.1 hf;simp only[Option.map_some,Option.getD_some,List.any_eq_true];constructor
  ·intro h;have H:n<i:=(by grind);exact⟨l[n],List.mem_take_iff_getElem.2 ⟨n,f6J,rfl⟩,d⟩
  ·rintro⟨x,J,D⟩;obtain⟨j,G,rfl⟩:=List.mem_take_iff_getElem.1 J;have C:n<=j:=(by grind);show(Int.ofNat n)<(i:Int);have:(Int.ofNat n)=(n:Int):=rfl;omega
end Cn
open Go.ChangeMaps (setBlock)
structure NI(w0 W:World)(c:Int->Int->Option Int)(cv ov:Value)(cxs oxs:List Sp):Prop where
 hr:W.heap[w0.heap.size]?=some (.cells #[.slice none 0 0,.slice none 0 0,.map none] 125 (0,0))
 hm:PAt W (w0.heap.size+1) c
 hx:W.heap[w0.heap.size+2]?=some (.cells #[cv,ov,.map (some (w0.heap.size+1))] 125 (0,0))
 hc:Rsh w0 W cv cxs
 ho:Rsh w0 W ov oxs
 ap:∀g,cv.ownBlock=some g->ov.ownBlock≠some g
 bel:Below w0.heap.size w0 W
theorem x0B{W:World}{g o}(h:W.heap[g]?=some o):g<W.heap.size:=by grind
theorem Rsh.keep{w0 W W' v}{xs:List Sp}(h:Rsh w0 W v xs)(G:∀g,v.ownBlock=some g->W'.heap[g]?=W.heap[g]?):Rsh w0 W' v xs:=⟨x0v h.1 G,h.2⟩
theorem NI.below{w0 W W'}{c:Int->Int->Option Int}{cv ov}{X A:List Sp}(h:NI w0 W c cv ov X A)(Q:Bw W W'):NI w0 W' c cv ov X A:=by
 obtain⟨Y,q,m,l⟩:=h.hm
 exact⟨by rw[Q.block _ (x0B h.hr)];exact h.hr,⟨Y,q,by rw[Q.block _ (x0B m)];exact m,l⟩,by rw[Q.block _ (x0B h.hx)];exact h.hx,
  h.hc.keep fun g C=>Q.block g (h.hc.1.lt g C).2,h.ho.keep fun g C=>Q.block g (h.ho.1.lt g C).2,h.ap,x0b h.bel Q⟩
theorem z6I{w0 W v}{xs:List Sp}(h:Rsh w0 W v xs){g}(C:v.ownBlock=some g):∃t,W.heap[g]?=some (.cells t 67 (0,0)):=by
 rcases h.1.2 with⟨rfl,_⟩ | ⟨k,A,t,rfl,_,Y,_⟩
 ·cases C
 ·exact t1T
theorem NI.far{w0 W}{c:Int->Int->Option Int}{cv ov v}{X A xs:List Sp}(h:NI w0 W c cv ov X A)(N:Rsh w0 W v xs):∀g,v.ownBlock=some g->g≠w0.heap.size/\g≠w0.heap.size+1/\g≠w0.heap.size+2:=by
 intro g C;obtain⟨t,H⟩:=z6I N C;refine⟨fun e=>?_,fun e=>?_,fun e=>?_⟩
 ·rw[e,h.hr]at H;simp at H
 ·obtain⟨Y,q,m,_⟩:=h.hm;rw[e,m]at H;simp at H
 ·rw[e,h.hx]at H;simp at H
theorem NI.classes{w0 W w1}{c:Int->Int->Option Int}{cv ov v'}{X A:List Sp}{o}{x:Sp}(h:NI w0 W c cv ov X A)(J:Sk .i32 w0 (sval x) x.1.to/\RecFit x.1)
  (H:w1.ownsRow w0.heap.size 67 8 v' (X.length+1) (X.flatMap encR++encR x)) (C:(W.alloc o).grownBy w1 cv.ownBlock) (N:v'.ownBlock=cv.ownBlock\/v'.ownBlock=some (W.heap.size+1)) :
  w1.heap[w0.heap.size+2]?=some (.cells #[cv,ov,.map (some (w0.heap.size+1))] 125 (0,0))/\NI w0 (w1.setCell ⟨w0.heap.size+2,0,none⟩ v') c v' ov (X++[x]) A:=by
 have L:∀g,g<W.heap.size->(W.alloc o).heap[g]?=W.heap[g]?:=fun g C=>((Below.refl W.heap.size W).alloc (l0r _) _).block g C
 have B:∀g,g<W.heap.size->cv.ownBlock≠some g->w1.heap[g]?=W.heap[g]?:=fun g Z D=>by
  rw[C.block g P8P (fun e=>D e.symm),L g Z]
 have d:=h.far h.hc;have F:w1.heap[w0.heap.size+2]?=some (.cells #[cv,ov,.map (some (w0.heap.size+1))] 125 (0,0)):=M2J
 have U:Rsh w0 w1 v' (X++[x]):=⟨P5h,fun y hy=>by
  rcases List.mem_append.1 hy with hy | hy
  ·exact h.hc.2 y hy
  ·simp only[List.mem_singleton]at hy
   subst hy;exact J⟩
 have hold:∀g,v'.ownBlock=some g->g≠w0.heap.size+2/\ov.ownBlock≠some g:=fun g I=>by
  rcases N with e | e
  ·rw[e]at I;exact⟨(d g I).2.2,h.ap g I⟩
  ·rw[e]at I;simp at I;have i:=x0B h.hx;refine⟨f6J,fun f=>?_⟩;have:=(h.ho.1.lt g f).2;omega
 obtain⟨Y,q,m,l⟩:=h.hm;refine⟨F,⟨?_,⟨Y,q,?_,l⟩,?_,?_,?_,fun g I=>(hold g I).2,?_⟩⟩
 ·exact e7t
 ·exact g3T
 ·rw[x0f F];rfl
 ·exact U.keep fun g I=>by rw[x0g _ (hold g I).1]
 ·refine h.ho.keep fun g I=>?_;rw[x0g _ (h.far h.ho g I).2.2,B g (h.ho.1.lt g I).2 (fun e=>h.ap g e I)]
 ·have b1:Bw w0 w1:=(h.bel.alloc h.bel.size o).grown C (by have:=h.bel.size;exact P8P) (fun k G=>(h.hc.1.lt k G).1);exact x0d b1 f6J v'
theorem NI.opens{w0 W w1}{c:Int->Int->Option Int}{cv ov v'}{X A:List Sp}{o}{x:Sp}(h:NI w0 W c cv ov X A)(J:Sk .i32 w0 (sval x) x.1.to/\RecFit x.1)
  (H:w1.ownsRow w0.heap.size 67 8 v' (A.length+1) (A.flatMap encR++encR x)) (C:(W.alloc o).grownBy w1 ov.ownBlock) (N:v'.ownBlock=ov.ownBlock\/v'.ownBlock=some (W.heap.size+1)) :
  w1.heap[w0.heap.size+2]?=some (.cells #[cv,ov,.map (some (w0.heap.size+1))] 125 (0,0))/\NI w0 (w1.setCell ⟨w0.heap.size+2,1,none⟩ v') c cv v' X (A++[x]):=by
 have L:∀g,g<W.heap.size->(W.alloc o).heap[g]?=W.heap[g]?:=fun g C=>((Below.refl W.heap.size W).alloc (l0r _) _).block g C
 have B:∀g,g<W.heap.size->ov.ownBlock≠some g->w1.heap[g]?=W.heap[g]?:=fun g Z D=>by
  rw[C.block g P8P (fun e=>D e.symm),L g Z]
 have d:=h.far h.ho;have F:w1.heap[w0.heap.size+2]?=some (.cells #[cv,ov,.map (some (w0.heap.size+1))] 125 (0,0)):=M2J
 have U:Rsh w0 w1 v' (A++[x]):=⟨P5h,fun y hy=>by
  rcases List.mem_append.1 hy with hy | hy
  ·exact h.ho.2 y hy
  ·simp only[List.mem_singleton]at hy
   subst hy;exact J⟩
 have hold:∀g,v'.ownBlock=some g->g≠w0.heap.size+2/\cv.ownBlock≠some g:=fun g I=>by
  rcases N with e | e
  ·rw[e]at I;exact⟨(d g I).2.2,fun f=>h.ap g f I⟩
  ·rw[e]at I;simp at I;have i:=x0B h.hx;refine⟨f6J,fun f=>?_⟩;have:=(h.hc.1.lt g f).2;omega
 obtain⟨Y,q,m,l⟩:=h.hm;refine⟨F,⟨?_,⟨Y,q,?_,l⟩,?_,?_,?_,fun g Z D=>(hold g D).2 Z,?_⟩⟩
 ·exact e7t
 ·exact g3T
 ·rw[x0f F];rfl
 ·refine h.hc.keep fun g I=>?_;rw[x0g _ (h.far h.hc g I).2.2,B g (h.hc.1.lt g I).2 (fun e=>h.ap g I e)]
 ·exact U.keep fun g I=>by rw[x0g _ (hold g I).1]
 ·have b1:Bw w0 w1:=(h.bel.alloc h.bel.size o).grown C (by have:=h.bel.size;exact P8P) (fun k G=>(h.ho.1.lt k G).1);exact x0d b1 f6J v'
theorem NI.upd{w0 W}{c c':Int->Int->Option Int}{cv ov}{X A:List Sp}{Y:Array MapEntry}{cl}(h:NI w0 W c cv ov X A)(j:PObj Y cl c'):NI w0 (setBlock W (w0.heap.size+1) (.map Y cl)) c' cv ov X A:=by
 obtain⟨D,B,m,_⟩:=h.hm;have H:=x0B m;refine⟨by rw[x2d _ _ f6J];exact h.hr,⟨Y,cl,y2O _ _ _ H,j⟩,by rw[x2d _ _ f6J];exact h.hx,?_,?_,h.ap,?_⟩
 ·exact h.hc.keep fun g C=>x2d _ _ (h.far h.hc g C).2.1
 ·exact h.ho.keep fun g C=>x2d _ _ (h.far h.ho g C).2.1
 ·exact h.bel.trans (x4I _ W _ _ f6J)
namespace Cn
theorem y7X{k}(h:fam k=2):k=6:=by
 revert h;exact r2C
theorem fam_three'{k}(h:fam k=3):k=7\/k=8:=by
 revert h;exact r2C
def y6x(a b:Rec):Prop:=right a=0/\right b=0/\clash a b=false
theorem x3G{f}(U:f=2\/f=3){l cs}{p:Rec->Bool}(S:(check6 l).2=0)(L:∀r,p r=true↔fam r.kind=f)(W:cs.Perm (l.filter p))(X:cs.Pairwise fun a b=>a.lo<=b.lo):x1y f cs/\∀r,r∈cs↔r∈l/\fam r.kind=f:=by
 obtain⟨_,u,B⟩:=x0m.1 S;have A:∀r,r∈cs↔r∈l/\fam r.kind=f:=fun r=>(by rw[W.mem_iff,List.mem_filter,L]);have Z:l.Pairwise y6x:=B.imp_of_mem fun{a b} ha hb h=>⟨u a ha,u b hb,h⟩;have D:(l.filter p).Pairwise y6x:=Z.filter p;have R:cs.Pairwise y6x:=(W.pairwise_iff (fun{x y} ⟨a,b,c⟩=>⟨b,a,z1z a b c⟩)).2 D;exact⟨y5H U (fun r C=>⟨u r ((A r).1 C).1,((A r).1 C).2⟩) (R.imp fun⟨_,_,c⟩=>c) X,A⟩
end Cn
