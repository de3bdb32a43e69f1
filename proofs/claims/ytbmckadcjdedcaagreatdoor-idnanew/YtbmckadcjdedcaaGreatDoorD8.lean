/- CcL7 CcM7 CcN7 Um9 CcO7 CcQ7 -/
import Derived.Test.YtbmckadcjdedcaaGreatDoorD9
import Derived.Shelf.SlSortCmp.WholeK
import Derived.Test.YtbmckadcjdedcaaGreatDoorD12
set_option maxHeartbeats 8000000
set_option maxRecDepth 8000
namespace Go.Proofs.YtbmckadcjdedcaaGreatDoor
open Go.Proofs.Tryz
open Go.RowKit
section
variable{p:Prop}
theorem u6L(h:p:=by go_wp2_with fail;refine(V K _).mono ?_;rintro e Q ⟨rfl,rfl⟩;go_wp2;go_ret;exact⟨rfl,0,_,by rw[alloc_eq_grow,alloc_eq_grow,grow_grow];rfl⟩):p:=h
theorem v1H(h:p:=by simp[Instr.lookup,run_underlying underlying123,MapKept.run_getObj_map C,pairLaw2.check w _ S,D,Result.andThen,f]):p:=h
theorem i1p(h:p:=by simp[Instr.lookup,run_underlying P,MapKept.run_getObj_map C,L.check w _ _ G,D,Result.andThen,o]):p:=h
theorem R5T(h:p:=by go_enter func132,ntmps132;go_wp2_with fail;refine c0m K1 fun Q ae=>?_;have ab:Below (w.heap.size+1) _ Q:=d.trans (ae.mono (by have:=d.size;exact R7u));obtain⟨m,n,o⟩:=V L Q ab;have Z:∀z,x0c w z (.returned (.bool z)) Q:=fun z=>⟨rfl,V HW _ ab⟩;have j:=O (V P Q (V HW _ ab));go_wp2_with fail;refine c0m j fun A af=>?_;have C:Below (w.heap.size+1) _ A:=ab.trans (af.mono (by have:=ab.size;exact R7u));obtain⟨ag,s,y⟩:=V L A C;have f:∀z,x0c w z (.returned (.bool z)) A:=fun z=>⟨rfl,V HW _ C⟩;have S:=O (V aG A (V HW _ C));go_wp2_with fail;refine(V S).mono ?_;rintro e u ⟨aD,rfl,N,H⟩;have F:Below (w.heap.size+1) _ u:=C.trans (H.mono (by have:=C.size;exact R7u));obtain⟨D,i,rfl,_,_⟩:=(OpB.sk N (V HW _ C) H).shape;obtain⟨am,aq,ar⟩:=V L u F;have q:∀z,x0c w z (.returned (.bool z)) u:=fun z=>⟨rfl,V HW _ F⟩;have K4:=O (V aH u (V HW _ F));go_wp2_with fail;refine(V K4).mono ?_;rintro e X ⟨aF,rfl,R,I⟩;have G:Below (w.heap.size+1) _ X:=F.trans (I.mono (by have:=F.size;exact R7u));obtain⟨aw,ai,rfl,_,_⟩:=(OpB.sk R (V HW _ F) I).shape;obtain⟨ay,az,aA⟩:=V L X G;have g:∀z,x0c w z (.returned (.bool z)) X:=fun z=>⟨rfl,V HW _ G⟩;have K5:=O (V aL X (V HW _ G));go_wp2_with fail;refine c0m K5 fun w5 aj=>?_;have Y:Below (w.heap.size+1) _ w5:=G.trans (aj.mono (by have:=G.size;exact R7u));obtain⟨aJ,aK,U⟩:=V L w5 Y;have B:∀z,x0c w z (.returned (.bool z)) w5:=fun z=>⟨rfl,V HW _ Y⟩;have HF:=B true;go_wp2;go_ret;exact HF):p:=h
theorem f0B(h:p:=by go_wp2;refine wp_loop_rounds 1 ?_;rw[rounds_succ];go_wp2;go_end0;exact g9S):p:=h
theorem r2O(h:p:=by unfold putRowK;rw[size_putRow];rfl):p:=h
theorem v0d(h:p:=by simp[Instr.lookup,run_underlying underlying123,MapKept.run_getObj_map C,pairLaw2.check w _ S,D,Result.andThen]):p:=h
theorem F7P(h:p:=by simp only[Value.slice.injEq,Option.some.injEq,Addr.mk.injEq,and_true]at N;obtain⟨rfl,_,_⟩:=N;exact x0e t):p:=h
theorem m8y(h:p:=by
 (try simp only[Exit.inBlock,Exit.then]);refine bodyPost_ret (results_none rfl _ _ _) rfl ?_
 exact g9S):p:=h
theorem T6r(h:p:=by simp[Instr.lookup,run_underlying P,MapKept.run_getObj_map C,L.check w _ _ G,D,Result.andThen]):p:=h
theorem M5E(h:p:=by go_enter func132,ntmps132;go_wp2_with fail;refine c0m K1 fun Q ae=>?_;have ab:Below (w.heap.size+1) _ Q:=d.trans (ae.mono p6r);obtain⟨m,n,o⟩:=V L Q ab;have Z:∀z,x0c w z (.returned (.bool z)) Q:=fun z=>⟨rfl,V HW _ ab⟩;have j:=O (V P Q (V HW _ ab));go_wp2_with fail;refine c0m j fun A af=>?_;have C:Below (w.heap.size+1) _ A:=ab.trans (af.mono E8t);obtain⟨ag,s,y⟩:=V L A C;have f:∀z,x0c w z (.returned (.bool z)) A:=fun z=>⟨rfl,V HW _ C⟩;have S:=O (V aG A (V HW _ C));go_wp2_with fail;refine(V S).mono ?_;rintro e u ⟨aD,rfl,N,H⟩;have F:Below (w.heap.size+1) _ u:=C.trans (H.mono I7L);obtain⟨D,i,rfl,_,_⟩:=(OpB.sk N (V HW _ C) H).shape;obtain⟨am,aq,ar⟩:=V L u F;have q:∀z,x0c w z (.returned (.bool z)) u:=fun z=>⟨rfl,V HW _ F⟩;have K4:=O (V aH u (V HW _ F));go_wp2_with fail;refine(V K4).mono ?_;rintro e X ⟨aF,rfl,R,I⟩;have G:Below (w.heap.size+1) _ X:=F.trans (I.mono w6V);obtain⟨aw,ai,rfl,_,_⟩:=(OpB.sk R (V HW _ F) I).shape;obtain⟨ay,az,aA⟩:=V L X G;have g:∀z,x0c w z (.returned (.bool z)) X:=fun z=>⟨rfl,V HW _ G⟩;have HF:=g true;go_wp2;go_ret;exact HF):p:=h
theorem R7u(h:p:=by rw[J]at this;exact f6J):p:=h
theorem i1T(h:p:=by rw[Array.getElem?_append_left f6J];show(w.heap.modify blk _)[k]?=_;rw[Array.getElem?_modify,if_neg (fun e=>F (by rw[e]))]):p:=h
theorem t9i(h:p:=by rw[Y.block g P8P (fun e=>Z e.symm),L g D]):p:=h
theorem G2Z(h:p:=by rw[ltLo]at *;simp at *;exact f6J):p:=h
theorem R7v(h:p:=by rw[J]at this;exact f6J):p:=h
theorem v5f(h:p:=by rw[I _ (x0B h.hx) (fun e=>(C _ e).2.2 rfl)];exact h.hx):p:=h
theorem p6r(h:p:=by have:=d.size;exact R7v):p:=h
theorem v2g(h:p:=by rw[x0g _ f6J,I _ (x0B h.hr) (fun e=>(C _ e).1 rfl)];exact h.hr):p:=h
theorem E8t(h:p:=by have:=ab.size;exact R7v):p:=h
theorem N2s(h:p:=by have N:F.extract 0 xs.toArray.size=F:=(by grind);rw[N]at a;simpa using a):p:=h
theorem I7L(h:p:=by have:=C.size;exact R7v):p:=h
theorem w6V(h:p:=by have:=F.size;exact R7v):p:=h
end
def Cn.wpair(l:List Rec)(c a b:Int):Bool:=decide (Cn.cls l c≠0)||decide (Cn.cls l a≠0)||decide (Cn.opn l b≠[])||(decide (Cn.opn l a≠[])&&(Cn.prim l a).isNone)||decide (b<128)||decide (a=46)
theorem Cn.pair_w(l:List Rec)(i:Nat)(r:Rec):Cn.pair l i r=(!(Cn.wpair l r.lo (r.to.getD 0 0) (r.to.getD 1 0))&&!((l.take i).any fun k=>decide (k.kind=7/\k.to.getD 0 0=r.to.getD 0 0/\k.to.getD 1 0=r.to.getD 1 0))):=rfl
theorem y8Q{zs:List Int}:decide (zs≠[])=decide (0<zs.length):=by
 cases zs<;>simp
theorem OpB.sk{U w w1:World}{v:Value}{zs:List Int}(h:Sk .i32 U v zs\/Ok .i32 21 w1 w.heap.size v zs)(t:Bw U w)(C:Bw w w1):Sk .i32 w1 v zs:=by
 rcases h with h | h
 ·exact(h.below t).below C
 ·exact h.sk
theorem z0r(l cs os:List Rec)(cv ov:Value)(mr:Nat)(c a b:Int)(w:World)(hg:Glob w)(h:Idx l w cv ov cs os)(hc:Rune c)(ha:Rune a)(aM:Rune b):Calls prog 132 #[xV cv ov (.map (some mr)),.int .i32 c,.int .i32 a,.int .i32 b] w (x0c w (Cn.wpair l c a b)):=by
 obtain⟨p,aB,rfl,_,_⟩:=h.rc.shape;obtain⟨aI,aC,rfl,_,_⟩:=h.ro.shape;have hb:Bw w (w.alloc (.cells #[.slice p cs.length aB,.slice aI os.length aC,.map (some mr)] 125)):=(b0r).alloc (l0r _) _;have J:(w.alloc (.cells #[.slice p cs.length aB,.slice aI os.length aC,.map (some mr)] 125)).heap.size=w.heap.size+1:=by simp
 have L:Hid (∀W,Below (w.heap.size+1) (w.alloc (.cells #[.slice p cs.length aB,.slice aI os.length aC,.map (some mr)] 125)) W->W.cell? ⟨w.heap.size,0,none⟩=some (.slice p cs.length aB)/\W.cell? ⟨w.heap.size,1,none⟩=some (.slice aI os.length aC)/\W.cell? ⟨w.heap.size,2,none⟩=some (.map (some mr))):=fun W t=>f8H
 have HW:Hid (∀W,Below (w.heap.size+1) (w.alloc (.cells #[.slice p cs.length aB,.slice aI os.length aC,.map (some mr)] 125)) W->Bw w W):=fun W t=>hb.trans (t.mono f6J);have KC:=O (fun W x (t:Bw w W) (hx:Rune x)=>x8s l cs os _ _ mr x W (hg.on t) (h.below t) hx);have KO:=O (fun W x (t:Bw w W) (hx:Rune x)=>y1q l cs os _ _ mr x w W hg h t hx);have KP:=O (fun W x (t:Bw w W) (hx:Rune x)=>z0x l cs os _ _ mr x W (hg.on t) (h.below t) hx);have K1:=O (V KC _ c hb hc);have P:=O (fun W t=>V KC W a t ha);have aG:=O (fun W t=>V KO W b t aM);have aH:=O (fun W t=>V KO W a t ha);have aL:=O (fun W t=>V KP W a t ha)
 have h0:Cn.wpair l c a b=(decide (Cn.cls l c≠0)||decide (Cn.cls l a≠0)||decide (0<(Cn.opn l b).length)||(decide (0<(Cn.opn l a).length)&&!(Cn.prim l a).isSome)||decide (b<128)||decide (a=46)):=by
  unfold Cn.wpair;rw[y8Q,y8Q];cases Cn.prim l a<;>rfl
 rw[h0];have d:Below (w.heap.size+1) (w.alloc (.cells #[.slice p cs.length aB,.slice aI os.length aC,.map (some mr)] 125)) (w.alloc (.cells #[.slice p cs.length aB,.slice aI os.length aC,.map (some mr)] 125)):=b0r;generalize Cn.cls l c=n1,Cn.cls l a=n2,Cn.opn l b=z3,Cn.opn l a=z4,(Cn.prim l a).isSome=p5 at *;unfold xV at *;by_cases q1:n1≠0
 ·rw[d0t q1];simp only[Bool.true_or];have d1:(n1 != 0)=true:=(by simp[q1]);go_enter func132,ntmps132;go_wp2_with fail;refine c0m K1 fun Q ae=>?_;have ab:Below (w.heap.size+1) _ Q:=d.trans (ae.mono p6r);obtain⟨m,n,o⟩:=V L Q ab;have Z:∀z,x0c w z (.returned (.bool z)) Q:=fun z=>⟨rfl,V HW _ ab⟩;have HF:=Z true;go_wp2;go_ret;exact HF
 ·obtain rfl:n1=0:=f6J;rw[d0f q1];simp only[Bool.false_or];by_cases q2:n2≠0
  ·rw[d0t q2];simp only[Bool.true_or];have d2:(n2 != 0)=true:=(by simp[q2]);go_enter func132,ntmps132;go_wp2_with fail;refine c0m K1 fun Q ae=>?_;have ab:Below (w.heap.size+1) _ Q:=d.trans (ae.mono p6r);obtain⟨m,n,o⟩:=V L Q ab;have Z:∀z,x0c w z (.returned (.bool z)) Q:=fun z=>⟨rfl,V HW _ ab⟩;have j:=O (V P Q (V HW _ ab));go_wp2_with fail;refine c0m j fun A af=>?_;have C:Below (w.heap.size+1) _ A:=ab.trans (af.mono E8t);obtain⟨ag,s,y⟩:=V L A C;have f:∀z,x0c w z (.returned (.bool z)) A:=fun z=>⟨rfl,V HW _ C⟩;have HF:=f true;go_wp2;go_ret;exact HF
  ·obtain rfl:n2=0:=f6J;rw[d0f q2];simp only[Bool.false_or];by_cases q3:0<z3.length
   ·rw[d0t q3];simp only[Bool.true_or];have d3:(0:Int)<(z3.length:Int):=f6J;go_enter func132,ntmps132;go_wp2_with fail;refine c0m K1 fun Q ae=>?_;have ab:Below (w.heap.size+1) _ Q:=d.trans (ae.mono p6r);obtain⟨m,n,o⟩:=V L Q ab;have Z:∀z,x0c w z (.returned (.bool z)) Q:=fun z=>⟨rfl,V HW _ ab⟩;have j:=O (V P Q (V HW _ ab));go_wp2_with fail;refine c0m j fun A af=>?_;have C:Below (w.heap.size+1) _ A:=ab.trans (af.mono E8t);obtain⟨ag,s,y⟩:=V L A C;have f:∀z,x0c w z (.returned (.bool z)) A:=fun z=>⟨rfl,V HW _ C⟩;have S:=O (V aG A (V HW _ C));go_wp2_with fail;refine(V S).mono ?_;rintro e u ⟨aD,rfl,N,H⟩;have F:Below (w.heap.size+1) _ u:=C.trans (H.mono I7L);obtain⟨D,i,rfl,_,_⟩:=(OpB.sk N (V HW _ C) H).shape;obtain⟨am,aq,ar⟩:=V L u F;have q:∀z,x0c w z (.returned (.bool z)) u:=fun z=>⟨rfl,V HW _ F⟩;have HF:=q true;go_wp2;go_ret;exact HF
   ·obtain rfl:z3=[]:=List.eq_nil_of_length_eq_zero f6J;rw[d0f q3];simp only[Bool.false_or];by_cases q4:0<z4.length
    ·rw[d0t q4];simp only[Bool.true_and];have d4:(0:Int)<(z4.length:Int):=f6J;cases p5
     ·simp only[Bool.not_false,Bool.true_or];exact R5T
     ·simp only[Bool.not_true,Bool.false_or];by_cases q6:b<128
      ·rw[d0t q6,Bool.true_or];exact R5T
      ·have d6:decide (b<128)=false:=d0f q6;rw[d6,Bool.false_or];by_cases q7:a=46
       ·rw[d0t q7];subst q7;exact R5T
       ·rw[d0f q7];have d7:(a==46)=false:=b0f q7;go_enter func132,ntmps132;go_wp2_with fail;refine c0m K1 fun Q ae=>?_;have ab:Below (w.heap.size+1) _ Q:=d.trans (ae.mono p6r);obtain⟨m,n,o⟩:=V L Q ab;have Z:∀z,x0c w z (.returned (.bool z)) Q:=fun z=>⟨rfl,V HW _ ab⟩;have j:=O (V P Q (V HW _ ab));go_wp2_with fail;refine c0m j fun A af=>?_;have C:Below (w.heap.size+1) _ A:=ab.trans (af.mono E8t);obtain⟨ag,s,y⟩:=V L A C;have f:∀z,x0c w z (.returned (.bool z)) A:=fun z=>⟨rfl,V HW _ C⟩;have S:=O (V aG A (V HW _ C));go_wp2_with fail;refine(V S).mono ?_;rintro e u ⟨aD,rfl,N,H⟩;have F:Below (w.heap.size+1) _ u:=C.trans (H.mono I7L);obtain⟨D,i,rfl,_,_⟩:=(OpB.sk N (V HW _ C) H).shape;obtain⟨am,aq,ar⟩:=V L u F;have q:∀z,x0c w z (.returned (.bool z)) u:=fun z=>⟨rfl,V HW _ F⟩;have K4:=O (V aH u (V HW _ F));go_wp2_with fail;refine(V K4).mono ?_;rintro e X ⟨aF,rfl,R,I⟩;have G:Below (w.heap.size+1) _ X:=F.trans (I.mono w6V);obtain⟨aw,ai,rfl,_,_⟩:=(OpB.sk R (V HW _ F) I).shape;obtain⟨ay,az,aA⟩:=V L X G;have g:∀z,x0c w z (.returned (.bool z)) X:=fun z=>⟨rfl,V HW _ G⟩;have K5:=O (V aL X (V HW _ G));go_wp2_with fail;refine c0m K5 fun w5 aj=>?_;have Y:Below (w.heap.size+1) _ w5:=G.trans (aj.mono (by have:=G.size;exact R7v));obtain⟨aJ,aK,U⟩:=V L w5 Y;have B:∀z,x0c w z (.returned (.bool z)) w5:=fun z=>⟨rfl,V HW _ Y⟩;have HF:=B false;go_wp2;go_ret;exact HF
    ·obtain rfl:z4=[]:=List.eq_nil_of_length_eq_zero f6J;rw[d0f q4];simp only[Bool.false_and,Bool.false_or];by_cases q6:b<128
     ·rw[d0t q6,Bool.true_or];exact M5E
     ·have d6:decide (b<128)=false:=d0f q6;rw[d6,Bool.false_or];by_cases q7:a=46
      ·rw[d0t q7];subst q7;exact M5E
      ·rw[d0f q7];have d7:(a==46)=false:=b0f q7;go_enter func132,ntmps132;go_wp2_with fail;refine c0m K1 fun Q ae=>?_;have ab:Below (w.heap.size+1) _ Q:=d.trans (ae.mono p6r);obtain⟨m,n,o⟩:=V L Q ab;have Z:∀z,x0c w z (.returned (.bool z)) Q:=fun z=>⟨rfl,V HW _ ab⟩;have j:=O (V P Q (V HW _ ab));go_wp2_with fail;refine c0m j fun A af=>?_;have C:Below (w.heap.size+1) _ A:=ab.trans (af.mono E8t);obtain⟨ag,s,y⟩:=V L A C;have f:∀z,x0c w z (.returned (.bool z)) A:=fun z=>⟨rfl,V HW _ C⟩;have S:=O (V aG A (V HW _ C));go_wp2_with fail;refine(V S).mono ?_;rintro e u ⟨aD,rfl,N,H⟩;have F:Below (w.heap.size+1) _ u:=C.trans (H.mono I7L);obtain⟨D,i,rfl,_,_⟩:=(OpB.sk N (V HW _ C) H).shape;obtain⟨am,aq,ar⟩:=V L u F;have q:∀z,x0c w z (.returned (.bool z)) u:=fun z=>⟨rfl,V HW _ F⟩;have K4:=O (V aH u (V HW _ F));go_wp2_with fail;refine(V K4).mono ?_;rintro e X ⟨aF,rfl,R,I⟩;have G:Below (w.heap.size+1) _ X:=F.trans (I.mono w6V);obtain⟨aw,ai,rfl,_,_⟩:=(OpB.sk R (V HW _ F) I).shape;obtain⟨ay,az,aA⟩:=V L X G;have g:∀z,x0c w z (.returned (.bool z)) X:=fun z=>⟨rfl,V HW _ G⟩;have HF:=g false;go_wp2;go_ret;exact HF
open Go.RowKit Go.Sort Go.Shelf
abbrev Sp:=Rec×Option Addr×Nat×Nat
def sval(x:Sp):Value:=.slice x.2.1 x.2.2.1 x.2.2.2
def encR(x:Sp):List Value:=x0y (x.1,sval x)
theorem y3d(x:Sp):(encR x).length=8:=rfl
theorem x8H(x:Sp):∀v∈encR x,v.oneCell'=true:=x6Q x.1 rfl
def loOf(x y:Sp):Int:=Lib.compareInt x.1.lo y.1.lo
theorem ltLo(x y:Sp):ltOf loOf x y=decide (x.1.lo<y.1.lo):=by
 unfold ltOf loOf Lib.compareInt;by_cases D:x.1.lo<y.1.lo
 ·simp[D]
 ·grind
theorem swoLo:SWO (ltOf loOf):={
 irrefl:=fun x=>by rw[ltLo];exact M7L
 trans:=fun x y z D Z=>G2Z
 ntrans:=fun x y z D Z=>G2Z }
theorem z0W(x y:Sp)(W:World):Calls prog 128 #[.agg (encR x).toArray,.agg (encR y).toArray] W fun e w'=>e=.returned (.int .i64 (loOf x y))/\∃q A,w'=grow (W.drewN q) A:=by
 have K:=O (fun W=>x2U x.1.lo y.1.lo W);have e:Lib.compareInt x.1.lo y.1.lo=loOf x y:=rfl;rw[e]at K;obtain⟨a,s,C,B⟩:=x;obtain⟨b,o,G,D⟩:=y;show Calls prog 128 #[.agg #[.int .i64 a.kind,.int .i64 a.lo,.int .i64 a.hi,.int .i64 a.n,.slice s C B,.string a.name,.string a.other,.float .f64 a.wt],.agg #[.int .i64 b.kind,.int .i64 b.lo,.int .i64 b.hi,.int .i64 b.n,.slice o G D,.string b.name,.string b.other,.float .f64 b.wt]] W _;go_enter func128,ntmps128;exact u6L
def z6G(w0:World)(xs:List Sp):Prop:=∀x∈xs,Sk .i32 w0 (sval x) x.1.to/\RecFit x.1
def Rsh(w0 w:World)(v:Value)(xs:List Sp):Prop:=w.ownsRow w0.heap.size 67 8 v xs.length (xs.flatMap encR)/\z6G w0 xs
def Rsx(w0 w:World)(v:Value)(xs:List Sp):Prop:=z6G w0 xs/\((xs=[]/\∃ao cap,v=.slice ao 0 cap/\cap<=9223372036854775807) \/
 ∃blk cap,v=.slice (some ⟨blk,0,none⟩) xs.length cap/\w0.heap.size<=blk/\blk<w.heap.size/\xs.length<=cap/\cap<=9223372036854775807/\∀i j,i<xs.length->j<8->w.cell? ⟨blk,i*8+j,none⟩=some ((encR (xs.getD i (Cn.none,none,0,0)))[j]!))
theorem y1U(xs:List Sp):xs.flatMap encR=rcells (xs.map fun x=>(x.1,sval x)):=by
 induction xs with
 | nil=>rfl
 | cons x xs ih=>rw[List.flatMap_cons,ih];rfl
theorem x8M(xs:List Sp)(i j:Nat)(hi:i<xs.length)(A:j<8):(xs.flatMap encR)[i*8+j]?=some ((encR (xs.getD i (Cn.none,none,0,0)))[j]!):=by
 rw[y1U,x1v _ i j w3y A];have e:(xs.map fun x=>(x.1,sval x)).getD i (Cn.none,undef)=((xs.getD i (Cn.none,none,0,0)).1,sval (xs.getD i (Cn.none,none,0,0))):=(by grind);rw[e];show(encR (xs.getD i (Cn.none,none,0,0)))[j]?=_;have S:=y3d (xs.getD i (Cn.none,none,0,0));rw[List.getElem?_eq_getElem (by rw[S];exact A),getElem!_pos _ j (by rw[S];exact A)]
theorem Rsx.keep{U w w':World}{v:Value}{xs:List Sp}(h:Rsx U w v xs)(X:w.heap.size<=w'.heap.size)(G:∀g,v.ownBlock=some g->w'.heap[g]?=w.heap[g]?):Rsx U w' v xs:=by
 refine⟨h.1,?_⟩;rcases h.2 with Z | ⟨blk,A,rfl,D,Z,R,H,p⟩
 ·exact .inl Z
 ·exact .inr ⟨blk,A,rfl,D,f6J,R,H,fun i j hi B=>by rw[World.cell?_of_block (G blk rfl)];exact p i j hi B⟩
theorem Rsx.rcs{U w:World}{v:Value}{xs:List Sp}(h:Rsx U w v xs)(t:Bw U w)(S:xs.length<=1000000000):Rcs w v (xs.map (·.1)):=by
 refine⟨t2Y,fun r u=>?_,?_⟩
 ·obtain⟨x,J,rfl⟩:=List.mem_map.1 u;exact(h.1 x J).2
 ·rcases h.2 with⟨rfl,s,A,rfl,I⟩ | ⟨blk,A,rfl,D,Z,R,H,p⟩
  ·exact .inl ⟨rfl,s,A,rfl,I⟩
  ·refine .inr ⟨blk,0,A,M7L,s4Q,H,fun i hi=>?_⟩;rw[List.length_map]at hi;have e:(xs.map (·.1)).getD i Cn.none=(xs.getD i (Cn.none,none,0,0)).1:=(by grind);have B:xs.getD i (Cn.none,none,0,0)∈xs:=(by grind);rw[e,Nat.zero_add];exact⟨p i 0 hi f6J,p i 1 hi f6J,p i 2 hi f6J,p i 3 hi f6J,⟨_,p i 4 hi f6J,(h.1 _ B).1.below t⟩,p i 5 hi f6J,p i 6 hi f6J,p i 7 hi f6J⟩
theorem Rsh.rsx{U w:World}{v:Value}{xs:List Sp}(h:Rsh U w v xs):Rsx U w v xs:=by
 refine⟨h.2,?_⟩;have D:=h.1;rcases h.1.2 with⟨rfl,F⟩ | ⟨g,A,P,rfl,Y,t,C,m,I,s⟩
 ·grind
 ·refine .inr ⟨g,A,rfl,Y,(D.lt g rfl).2,C,M7M,fun i j hi B=>?_⟩;have e:=D.cells (g:=g) rfl (i*8+j) _ (x8M xs i j hi B);rw[addr_add,Nat.zero_add]at e;exact e
theorem Rsh.holds[Inhabited Rec]{U w:World}{xs:List Sp}{g cap:Nat}(h:Rsh U w (.slice (some ⟨g,0,none⟩) xs.length cap) xs):HoldsK encR 8 w g 0 xs.toArray:=by
 intro j B;rw[size_flatK]at B;have C:j<xs.length*8:=m0d;rw[get_flatK _ _ _ _ B];have hd:j / 8<xs.length:=f6J
 have e:=h.1.cells (g:=g) rfl j _ (by
  have:=x8M xs (j / 8) (j%8) hd f6J;rw[(f6J:j / 8*8+j%8=j)]at this
  exact this)
 rw[addr_add,Nat.zero_add]at e;have A:xs.toArray[j / 8]! = xs.getD (j / 8) (Cn.none,none,0,0):=(by grind);rw[A,Nat.zero_add];refine⟨e,?_⟩;rcases h.1.2 with⟨N,_⟩ | ⟨D,J,P,N,_,t,_⟩
 ·simp at N
 ·exact F7P
theorem y5P[Inhabited Rec]{w:World}{blk n:Nat}{d:Array Sp}{b:Array Obj}:w.grownBy (sortWorldK encR 8 w blk 0 n d b) (some blk):=by
 refine⟨rfl,rfl,rfl,?_,fun k G F=>?_⟩
 ·show w.heap.size<=((putRowK encR 8 (Sort.ahead w n) blk 0 d).heap++b).size;rw[Array.size_append];have:(putRowK encR 8 (Sort.ahead w n) blk 0 d).heap.size=w.heap.size:=r2O;omega
 ·show((putRowK encR 8 (Sort.ahead w n) blk 0 d).heap++b)[k]?=_;have X:(putRowK encR 8 (Sort.ahead w n) blk 0 d).heap.size=w.heap.size:=r2O;exact i1T
theorem z5j(p:Option Addr)(cap:Nat)(B:Value)(w:World):Calls prog 218 #[.slice p 0 cap,.int .i64 0,.int .i64 0,B] w fun e w'=>e=.returned (.tuple #[])/\w'=w:=by
 go_enter func218,ntmps218;exact f0B
theorem z5N(p:Option Addr)(cap:Nat)(B:Int)(C:Value)(w:World):Calls prog 170 #[.slice p 0 cap,.int .i64 0,.int .i64 0,.int .i64 B,C] w fun e w'=>e=.returned (.tuple #[])/\w'=w:=by
 have hi:=fun W=>z5j p cap C W;go_enter func170,ntmps170;go_wp2;refine wp_loop_rounds 1 ?_;rw[rounds_succ];go_wp2_with(go_at_call 218;refine(hi _).mono ?_;rintro e w' ⟨rfl,rfl⟩)
 exact m8y
theorem z2C(p:Option Addr)(cap:Nat)(D:Value)(w:World):Calls prog 127 #[.slice p 0 cap,D] w fun e w'=>e=.returned (.tuple #[])/\w'=w:=by
 have S:∀W,Calls prog 171 #[.int .u64 0] W fun e w'=>e=.returned (.int .i64 0)/\w'=W:=fun W =>
  Any.bits_Len (SlLaysF0.n15.bits (P:=prog) (ρ:=Tryz.lays127_ren) { Tryz.lays127 with }) 0 W f6J f6J
 have A:=fun B W=>z5N p cap B D W;go_enter func127,ntmps127;go_wp2_with(first| (go_at_call 171;refine(S _).mono ?_;rintro e w' ⟨rfl,rfl⟩)|(go_at_call 170;refine(A _ _).mono ?_;rintro e w' ⟨rfl,rfl⟩));go_end0;exact⟨rfl,rfl⟩
def SortB(w0 w:World)(v:Value)(xs:List Sp)(e:Ending)(w':World):Prop:=e=.returned (.tuple #[])/\∃xs':List Sp,xs'.Perm xs/\(xs'.Pairwise fun a b=>a.1.lo<=b.1.lo)/\Rsx w0 w' v xs'/\w.grownBy w' v.ownBlock
theorem y3P(U w:World)(v:Value)(xs:List Sp)(h:Rsh U w v xs)(S:xs.length<=1000000000):Calls prog 127 #[v,.func (.func 128) #[] #[]] w (SortB U w v xs):=by
 have ab:Inhabited Rec:=⟨Cn.none⟩;rcases h.1.2 with⟨rfl,Z⟩ | ⟨g,A,P,rfl,Y,t,q,m,I,s⟩
 ·obtain rfl:xs=[]:=List.eq_nil_of_length_eq_zero Z;refine(z2C none 0 _ w).mono ?_;rintro e R ⟨rfl,rfl⟩;exact⟨rfl,[],List.Perm.refl _,.nil,h.rsx,⟨rfl,rfl,rfl,l0r _,fun _ _ _=>rfl⟩⟩
 ·have H:=(h.1.lt g rfl).2;have u:=h.holds;have W:∀D w,(callFunc 128 D).run prog w=.ok (.enter 128 D) w:=enters_of func128 f4z rfl;have Q:CmpLays prog 128 #[] encR 8 loOf g 0 xs.toArray.size w:=fun _ _ _ _ x y=>z0W x y _;have l:∀w,(isAgg 67).run prog w=.ok true w:=Tryz.isAgg67;have o:∀w,(Go.sizeOf 67).run prog w=.ok 8 w:=Tryz.sizeOf67;have K:=AnyQ.slices_SortFunc Tryz.lays127 8 l o encR y3d x8H loOf swoLo 128 #[] g 0 A xs.toArray w W Q u H P8P;change Calls prog 127 #[.slice (some ⟨g,0,none⟩) xs.length A,_] w _ at K;refine K.mono ?_;rintro e R ⟨rfl,F,n,b,⟨L,_,a⟩,X,rfl⟩;have f:F.size=xs.length:=by simpa using L
  have C:F.toList.Perm xs:=N2s
  have d:SWK encR 8 w g 0 F (sortWorldK encR 8 w g 0 n F b):=⟨n,b,rfl⟩;have G:=d.holds H u L;refine⟨rfl,F.toList,C,?_,⟨fun x J=>h.2 x (C.mem_iff.1 J),.inr ⟨g,A,by rw[show F.toList.length=xs.length by simpa using f],Y,d.lt H,by rw[Array.length_toList,f];exact q,M7Q,fun i j hi B=>?_⟩⟩,y5P⟩
  ·rw[List.pairwise_iff_getElem];intro i j hi B p;have:=X i j (Nat.zero_le _) p (by simp at B ⊢;exact f6J);rw[ltLo,decide_eq_false_iff_not]at this;rw[getElem!_pos F j m0d,getElem!_pos F i (by simpa using hi)]at this;simp only[Array.getElem_toList];omega
  ·rw[Array.length_toList]at hi;have:=(G.cell (i:=i) (c:=j) hi B).1;rw[Nat.zero_add]at this;rw[this,getElem!_pos F i hi];exact n7B
open Go.RowKit Go.MapKept Go.WideMaps
open Go.ChangeMaps (setBlock)
theorem pairLaw2:KeyLaw prog 195:=deep_law_laid x5R (m:=3) e8N (o0d f4x) f4x f4x
def pk2(a b:Int):Value:=.agg #[.int .i32 a,.int .i32 b]
theorem y2Y:prog.cellsOf 195=2:=f4x
theorem y6M:prog.cellsOf 21=1:=f4x
theorem y5b:prog.keyType 195=true:=f4x
theorem x3o{a:Int}(h:Rune a)(D:Nat):prog.keyLits (D+1) 21 [.int .i32 a]=some [.int .i32 a]:=by
 rw[Program.keyLits.eq_def];simp only[underlying21]
 have t:(Lit.int .i32 a).wf=true:=by
  unfold Rune at h;exact w7O
 rw[if_pos ⟨trivial,t⟩]
theorem y2e{a b:Int}(L:Rune a)(C:Rune b)(D:Nat):prog.keyLits (D+2) 195 [.int .i32 a,.int .i32 b]=some [.int .i32 a,.int .i32 b]:=by
 rw[Program.keyLits.eq_def];simp only[underlying195,y2Y,y6M];rw[if_pos (show[Value.int .i32 a,Value.int .i32 b].length=2 from rfl)];have e:List.range 2=[0,1]:=rfl;rw[e];simp[List.mapM_cons,x3o L D,x3o C D]
theorem y2o{a b:Int}(L:Rune a)(C:Rune b):∃l,keyOf prog 195 (pk2 a b)=some l:=by
 have A:(pk2 a b).formed prog 195=true:=by
  simp[pk2,Value.formed,underlying195,y2Y]
 obtain⟨n,B⟩:∃n,prog.types.size+1=n+2:=⟨prog.types.size-1,m4z⟩;refine⟨.string (keyBytes [.int .i32 a,.int .i32 b]),?_⟩;unfold keyOf;simp only[underlying195,y5b,A,Bool.and_self,if_true,B];show(prog.keyLits (n+2) 195 [.int .i32 a,.int .i32 b]).map _=_;rw[y2e L C n];rfl
theorem y9g{a b A X:Int}(h:pk2 a b=pk2 A X):a=A/\b=X:=by
 unfold pk2 at h;exact S4r
structure PObj(es:Array MapEntry)(clock:Nat)(c:Int->Int->Option Int):Prop where
 st:Stamped es clock
 keys:∀x∈es.toList,∃a b n,x.key=pk2 a b/\x.val=.int .i64 n/\c a b=some n/\Rune a/\Rune b
 none:∀a b,(∀x∈es.toList,x.key≠pk2 a b)->c a b=none
def PAt(w:World)(r:Nat)(c:Int->Int->Option Int):Prop:=∃es clock,w.heap[r]?=some (.map es clock)/\PObj es clock c
theorem PObj.ks{A:Array MapEntry}{clock:Nat}{c:Int->Int->Option Int}(h:PObj A clock c):∀x∈A.toList,∃l,keyOf prog 195 x.key=some l:=fun x J=>by
 obtain⟨a,b,n,e,_,_,L,C⟩:=h.keys x J;rw[e];exact y2o L C
theorem z8k:PObj #[] 0 (fun _ _=>none):=⟨⟨fun x J=>by simp at J,M7K,M7K⟩,fun x J=>by simp at J,fun _ _ _=>rfl⟩
theorem look_ok{w:World}{r:Nat}{c:Int->Int->Option Int}(h:PAt w r c){a b:Int}(L:Rune a)(P:Rune b) :
  (Instr.lookup 123 (.map (some r)) (pk2 a b) true).run prog w=.ok (.tuple #[.int .i64 ((c a b).getD 0),.bool (c a b).isSome]) w/\(Instr.lookup 123 (.map (some r)) (pk2 a b) false).run prog w=.ok (.int .i64 ((c a b).getD 0)) w:=by
 obtain⟨A,clock,C,h⟩:=h;obtain⟨l,S⟩:=y2o L P;rcases pairLaw2.find w S A.toList h.ks with⟨D,Z⟩ | ⟨j,H,D,Z,R⟩
 ·rw[h.none a b Z];refine⟨?_,?_⟩
  ·exact v0d
  ·exact v0d
 ·obtain⟨F,X,n,N,f,B,_,_⟩:=h.keys H (List.mem_of_getElem? Z);obtain⟨rfl,rfl⟩:=y9g (N.symm.trans R);rw[B];refine⟨?_,?_⟩
  ·exact v1H
  ·exact v1H
def setP(c:Int->Int->Option Int)(a b n:Int):Int->Int->Option Int:=fun x y=>if x=a/\y=b then some n else c x y
theorem y5K{w:World}{r:Nat}{c:Int->Int->Option Int}(h:PAt w r c){a b:Int}(L:Rune a)(P:Rune b)(U:c a b=none)(n:Int) :
  ∃s Q,(Instr.mapUpdate 123 (.map (some r)) (pk2 a b) (.int .i64 n)).run prog w=.ok () (setBlock w r (.map s Q))/\PObj s Q (setP c a b n):=by
 obtain⟨A,clock,C,h⟩:=h;obtain⟨l,S⟩:=y2o L P;rcases pairLaw2.find w S A.toList h.ks with⟨D,Z⟩ | ⟨j,H,D,Z,R⟩
 ·refine⟨A.push ⟨pk2 a b,.int .i64 n,clock⟩,clock+1,?_,⟨stamped_push h.st Z,fun x J=>?_,fun G X F=>?_⟩⟩
  ·simp[Instr.mapUpdate,run_underlying underlying123,MapKept.run_getObj_map C,pairLaw2.check w false S,D,MapKept.run_setObj_map _ C,Result.andThen,setBlock]
  ·simp only[Array.toList_push,List.mem_append,List.mem_singleton]at J;rcases J with J | rfl
   ·obtain⟨G,X,m,N,f,B,I⟩:=h.keys x J;refine⟨G,X,m,N,f,?_,I⟩;unfold setP;rw[if_neg,B];rintro⟨rfl,rfl⟩;rw[U]at B;cases B
   ·exact⟨a,b,n,rfl,rfl,by unfold setP;rw[if_pos ⟨rfl,rfl⟩],L,P⟩
  ·unfold setP;rw[if_neg]
   ·exact h.none G X fun x J=>F x (by simp[J])
   ·rintro⟨rfl,rfl⟩;exact F ⟨pk2 G X,.int .i64 n,clock⟩ M7K rfl
 ·obtain⟨G,X,m,N,f,B,_,_⟩:=h.keys H (List.mem_of_getElem? Z);obtain⟨rfl,rfl⟩:=y9g (N.symm.trans R);rw[U]at B;cases B
theorem x8e(r:Rec)(vt:Value)(w:World)(N:Sk .i32 w vt r.to)(Z:r.to.length=2):Calls prog 126 #[recV r vt] w fun e w'=>e=.returned (pk2 (r.to.getD 0 0) (r.to.getD 1 0))/\Bw w w':=by
 obtain⟨b,P,D,rfl,_,I,X⟩:=N.place f6J;have m:=X 0 f6J;have t:=X 1 f6J;rw[Nat.add_zero]at m;have H:=x0a m;have A:∀W,Bw w W->W.cell? ⟨b,P,none⟩=some (.int .i32 (r.to.getD 0 0)):=fun W h=>(by rw[h.cell H];exact m);have B:∀W,Bw w W->W.cell? ⟨b,P+1,none⟩=some (.int .i32 (r.to.getD 1 0)):=fun W h=>(by rw[h.cell H];exact t);have l:Bw w ((w.alloc (.cells #[.int .i64 r.kind,.int .i64 r.lo,.int .i64 r.hi,.int .i64 r.n,.slice (some ⟨b,P,none⟩) 2 D,.string r.name,.string r.other,.float .f64 r.wt] 67)).alloc (.cells #[.int .i32 0,.int .i32 0] 195)):=((b0r).alloc (l0r _) _).alloc M7N _;have R:=A _ l;have U:=B _ l;rw[Z];unfold recV pk2;generalize r.to.getD 0 0=p,r.to.getD 1 0=q at *;go_enter func126,ntmps126;go_wp2;go_region;go_wp2;go_returns;exact⟨rfl,(((b0r).alloc (l0r _) _).alloc M7N _).trans ((x0k ⟨1,rfl⟩).mono P8P)⟩
open Go.RowKit Go.MapKept Go.WideMaps
open Go.ChangeMaps (setBlock)
structure KL(T:TypeId)(K:Value->Prop):Prop where
 check:∀(w:World) (em:Bool) (v:Value),K v->(Instr.checkKey em 10000 T v).run prog w=.ok () w
 find:∀(w:World) (x:Value),K x->∀es:List MapEntry,(∀e∈es,K e.key)->((Instr.findKey T x es).run prog w=.ok none w/\∀e∈es,e.key≠x)\/∃j e,(Instr.findKey T x es).run prog w=.ok (some (j,e.val)) w/\es[j]?=some e/\e.key=x
 stays:∀(w:World) (v:Value),K v->(Instr.keyThatStays v v).run prog w=.ok v w
theorem KL.of{T:TypeId}{K:Value->Prop}(h:KeyLaw prog T)(G:∀v,K v->∃l,keyOf prog T v=some l):KL T K :=
 ⟨fun w C v N=>by obtain⟨l,S⟩:=G v N;exact h.check w C S,fun w x J A B=>by obtain⟨l,S⟩:=G x J;exact h.find w S A (fun e q=>G _ (B e q)),fun w v N=>by obtain⟨l,S⟩:=G v N;exact h.stays w S⟩
structure GObj(K:Value->Prop)(es:Array MapEntry)(clock:Nat)(c:Value->Option Value):Prop where
 st:Stamped es clock
 keys:∀x∈es.toList,K x.key/\c x.key=some x.val
 none:∀k,(∀x∈es.toList,x.key≠k)->c k=none
def GAt(K:Value->Prop)(w:World)(r:Nat)(c:Value->Option Value):Prop:=∃es clock,w.heap[r]?=some (.map es clock)/\GObj K es clock c
theorem y7T(K:Value->Prop)(c:Value->Option Value)(h:∀k,c k=none):GObj K #[] 0 c:=⟨stamped_empty 0,fun x J=>by simp at J,fun k _=>h k⟩
section
variable {T M E:TypeId} {K:Value->Prop} {c c':Value->Option Value} {w:World} {r:Nat} {k z v:Value}
theorem z3g(L:KL T K)(P:prog.underlying M=some (.map T E))(o:∀w,(zeroValue E).run prog w=.ok z w)(h:GAt K w r c)(G:K k) :
  (Instr.lookup M (.map (some r)) k true).run prog w=.ok (.tuple #[(c k).getD z,.bool (c k).isSome]) w/\(Instr.lookup M (.map (some r)) k false).run prog w=.ok ((c k).getD z) w:=by
 obtain⟨A,clock,C,h⟩:=h;rcases L.find w k G A.toList (fun e q=>(h.keys e q).1)with⟨D,Z⟩ | ⟨j,H,D,Z,R⟩
 ·rw[h.none k Z];refine⟨?_,?_⟩
  ·exact i1p
  ·exact i1p
 ·have N:=(h.keys H (List.mem_of_getElem? Z)).2;rw[R]at N;rw[N];refine⟨?_,?_⟩
  ·exact T6r
  ·exact T6r
theorem x8O(L:KL T K)(P:prog.underlying M=some (.map T E))(h:GAt K w r c)(G:K k)(D:c' k=some v)(Z:∀x,x≠k->c' x=c x) :
  ∃s Q,(Instr.mapUpdate M (.map (some r)) k v).run prog w=.ok () (setBlock w r (.map s Q))/\GObj K s Q c':=by
 obtain⟨A,clock,C,h⟩:=h;rcases L.find w k G A.toList (fun e q=>(h.keys e q).1)with⟨m,S⟩ | ⟨j,H,m,S,u⟩
 ·refine⟨A.push ⟨k,v,clock⟩,clock+1,?_,⟨stamped_push h.st S,fun x J=>?_,fun x W=>?_⟩⟩
  ·simp[Instr.mapUpdate,run_underlying P,MapKept.run_getObj_map C,L.check w false _ G,m,MapKept.run_setObj_map _ C,Result.andThen,setBlock]
  ·simp only[Array.toList_push,List.mem_append,List.mem_singleton]at J;rcases J with J | rfl
   ·refine⟨(h.keys x J).1,?_⟩;rw[Z _ (S x J)];exact(h.keys x J).2
   ·exact⟨G,D⟩
  ·have F:x≠k:=fun e=>W ⟨k,v,clock⟩ M7K e.symm;rw[Z x F];exact h.none x fun y X=>W y (by simp[X])
 ·have B:A[j]?=some H:=t2X;have Y:j<A.size:=(Array.getElem?_eq_some_iff.1 B).1;refine⟨A.modify j fun e=>{ e with key:=k,val:=v },clock,?_,⟨stamped_modify h.st j _ (fun _ _=>rfl) (fun e _ q=>?_),fun x J=>?_,fun x W=>?_⟩⟩
  ·simp[Instr.mapUpdate,run_underlying P,MapKept.run_getObj_map C,L.check w false _ G,m,B,u,L.stays w _ G,MapKept.run_setObj_map _ C,Result.andThen,setBlock]
  ·rw[B]at q;cases q;exact u.symm
  ·obtain⟨i,hi⟩:=List.getElem?_of_mem J;rw[Array.getElem?_toList,Array.getElem?_modify]at hi;by_cases p:j=i
   ·grind
   ·rw[if_neg p]at hi;have U:x∈A.toList:=List.mem_of_getElem? (by rw[Array.getElem?_toList];exact hi)
    have F:x.key≠k:=fun e=>by
     have I:=h.st.2.2;have N:(A.toList.map (·.key))[i]?=some k:=(by rw[List.getElem?_map,Array.getElem?_toList,hi,Option.map_some,e]);have f:(A.toList.map (·.key))[j]?=some k:=(by rw[List.getElem?_map,Array.getElem?_toList,B,Option.map_some,u]);have R:i<(A.toList.map (·.key)).length:=(List.getElem?_eq_some_iff.1 N).1;exact p ((List.getElem?_inj R I).1 (N.trans f.symm)).symm
    rw[Z _ F];exact h.keys x U
  ·have F:x≠k:=fun e=>by
    have g:(⟨k,v,H.born⟩:MapEntry)∈(A.modify j fun e=>{ e with key:=k,val:=v }).toList:=by
     refine List.mem_of_getElem? (i:=j) ?_;rw[Array.getElem?_toList,Array.getElem?_modify,if_pos rfl,B];rfl
    exact W _ g e.symm
   rw[Z x F];refine h.none x fun y X=>?_;obtain⟨i,hi⟩:=List.getElem?_of_mem X;rw[Array.getElem?_toList]at hi;by_cases p:j=i
   ·subst p;rw[B]at hi;cases hi;rw[u];exact fun e=>F e.symm
   ·refine W y (List.mem_of_getElem? (i:=i) ?_);rw[Array.getElem?_toList,Array.getElem?_modify,if_neg p];exact hi
end
namespace Cn
def isP(a b:Int)(r:Rec):Bool:=decide (r.kind=7/\r.to.getD 0 0=a/\r.to.getD 1 0=b)
def firstP(l:List Rec)(a b:Int):Option Int:=(l.findIdx? (isP a b)).map Int.ofNat
theorem x3I(l:List Rec)(r:Rec)(a b:Int):firstP (l++[r]) a b=(firstP l a b).or (if isP a b r then some (l.length:Int)else Option.none):=by
 unfold firstP;rw[List.findIdx?_append]
 cases h:l.findIdx? (isP a b)with
 | some n=>simp
 | none=>grind
theorem x2W{l:List Rec}{r:Rec}(h:r.kind≠7):firstP (l++[r])=firstP l:=by
 funext a b;rw[x3I,show isP a b r=false by unfold isP;exact d0f (fun q=>h q.1)];simp
theorem y0i{l:List Rec}{r:Rec}(G:(firstP l (r.to.getD 0 0) (r.to.getD 1 0)).isSome=true):firstP (l++[r])=firstP l:=by
 funext a b;rw[x3I];by_cases h:isP a b r=true
 ·obtain⟨_,rfl,rfl⟩:=o0d h;obtain⟨n,A⟩:=Option.isSome_iff_exists.1 G;rw[A];rfl
 ·rw[if_neg h];simp
theorem y4O{l:List Rec}{r:Rec}(x:r.kind=7)(G:firstP l (r.to.getD 0 0) (r.to.getD 1 0)=Option.none):firstP (l++[r])=setP (firstP l) (r.to.getD 0 0) (r.to.getD 1 0) (l.length:Int):=by
 funext a b;rw[x3I];unfold setP;by_cases h:a=r.to.getD 0 0/\b=r.to.getD 1 0
 ·obtain⟨rfl,rfl⟩:=h;rw[G,show isP (r.to.getD 0 0) (r.to.getD 1 0) r=true from d0t ⟨x,rfl,rfl⟩];simp
 ·rw[if_neg h,show isP a b r=false from d0f (fun q=>h ⟨q.2.1.symm,q.2.2.symm⟩)];simp
theorem y7F{l:List Rec}{i:Nat}(hi:i<l.length)(G:(l.getD i none).kind=7):((firstP l ((l.getD i none).to.getD 0 0) ((l.getD i none).to.getD 1 0)).getD 0<(i:Int))↔((l.take i).any fun k=>decide (k.kind=7/\k.to.getD 0 0=(l.getD i none).to.getD 0 0/\k.to.getD 1 0=(l.getD i none).to.getD 1 0))=true:=by
 have y:l.getD i none=l[i]:=getD_at hi
 have A:isP ((l.getD i none).to.getD 0 0) ((l.getD i none).to.getD 1 0) l[i]=true:=by
  rw[y]at G ⊢;exact d0t ⟨G,rfl,rfl⟩
 generalize(l.getD i none).to.getD 0 0=a,(l.getD i none).to.getD 1 0=b at *;have D:((l.take i).any fun k=>decide (k.kind=7/\k.to.getD 0 0=a/\k.to.getD 1 0=b))=(l.take i).any (isP a b):=rfl;rw[D];unfold firstP
 cases hf:l.findIdx? (isP a b)with
 | none=>grind
 | some n =>
  obtain⟨N,C,L⟩:=List.findIdx?_eq_some_iff_getElem.1 hf;simp only[Option.map_some,Option.getD_some,List.any_eq_true];constructor
  ·intro h;have H:n<i:=(by grind);exact⟨l[n],List.mem_take_iff_getElem.2 ⟨n,f6J,rfl⟩,C⟩
  ·rintro⟨x,J,F⟩;obtain⟨j,I,rfl⟩:=List.mem_take_iff_getElem.1 J;have B:n<=j:=(by grind);show(Int.ofNat n)<(i:Int);have:(Int.ofNat n)=(n:Int):=rfl;omega
end Cn
open Go.ChangeMaps (setBlock)
structure NI(w0 W:World)(c:Int->Int->Option Int)(cv ov:Value)(cxs oxs:List Sp):Prop where
 hr:W.heap[w0.heap.size]?=some (.cells #[.slice none 0 0,.slice none 0 0,.map none] 125 (0,0))
 hm:PAt W (w0.heap.size+1) c
 hx:W.heap[w0.heap.size+2]?=some (.cells #[cv,ov,.map (some (w0.heap.size+1))] 125 (0,0))
 hc:Rsh w0 W cv cxs
 ho:Rsh w0 W ov oxs
 ap:∀g,cv.ownBlock=some g->ov.ownBlock≠some g
 bel:Below w0.heap.size w0 W
theorem x0B{W:World}{g:Nat}{o:Obj}(h:W.heap[g]?=some o):g<W.heap.size:=by grind
theorem Rsh.keep{U W Q:World}{v:Value}{xs:List Sp}(h:Rsh U W v xs)(G:∀g,v.ownBlock=some g->Q.heap[g]?=W.heap[g]?):Rsh U Q v xs:=⟨x0u h.1 G,h.2⟩
theorem NI.below{U W Q:World}{c:Int->Int->Option Int}{cv ov:Value}{u D:List Sp}(h:NI U W c cv ov u D)(C:Bw W Q):NI U Q c cv ov u D:=by
 obtain⟨A,i,B,l⟩:=h.hm
 exact⟨by rw[C.block _ (x0B h.hr)];exact h.hr,⟨A,i,by rw[C.block _ (x0B B)];exact B,l⟩,by rw[C.block _ (x0B h.hx)];exact h.hx,
  h.hc.keep fun g Y=>C.block g (h.hc.1.lt g Y).2,h.ho.keep fun g Y=>C.block g (h.ho.1.lt g Y).2,h.ap,x0b h.bel C⟩
theorem z6b{U W:World}{v:Value}{xs:List Sp}(h:Rsh U W v xs){g:Nat}(Y:v.ownBlock=some g):∃P,W.heap[g]?=some (.cells P 67 (0,0)):=by
 rcases h.1.2 with⟨rfl,_⟩ | ⟨k,A,P,rfl,_,t,_⟩
 ·cases Y
 ·exact p5p
theorem NI.far{U W:World}{c:Int->Int->Option Int}{cv ov v:Value}{u C xs:List Sp}(h:NI U W c cv ov u C)(N:Rsh U W v xs):∀g,v.ownBlock=some g->g≠U.heap.size/\g≠U.heap.size+1/\g≠U.heap.size+2:=by
 intro g Y;obtain⟨P,I⟩:=z6b N Y;refine⟨fun e=>?_,fun e=>?_,fun e=>?_⟩
 ·rw[e,h.hr]at I;simp at I
 ·obtain⟨A,i,B,_⟩:=h.hm;rw[e,B]at I;simp at I
 ·rw[e,h.hx]at I;simp at I
theorem NI.classes{U W w1:World}{c:Int->Int->Option Int}{cv ov v':Value}{u H:List Sp}{o:Obj}{x:Sp}(h:NI U W c cv ov u H)(J:Sk .i32 U (sval x) x.1.to/\RecFit x.1)
  (s:w1.ownsRow U.heap.size 67 8 v' (u.length+1) (u.flatMap encR++encR x)) (Y:(W.alloc o).grownBy w1 cv.ownBlock) (q:v'.ownBlock=cv.ownBlock\/v'.ownBlock=some (W.heap.size+1)) :
  w1.heap[U.heap.size+2]?=some (.cells #[cv,ov,.map (some (U.heap.size+1))] 125 (0,0))/\NI U (w1.setCell ⟨U.heap.size+2,0,none⟩ v') c v' ov (u++[x]) H:=by
 have L:∀g,g<W.heap.size->(W.alloc o).heap[g]?=W.heap[g]?:=fun g Y=>((Below.refl W.heap.size W).alloc (l0r _) _).block g Y
 have I:∀g,g<W.heap.size->cv.ownBlock≠some g->w1.heap[g]?=W.heap[g]?:=fun g D Z=>t9i
 have C:=h.far h.hc;have F:w1.heap[U.heap.size+2]?=some (.cells #[cv,ov,.map (some (U.heap.size+1))] 125 (0,0)):=v5f
 have X:Rsh U w1 v' (u++[x]):=⟨by simpa using s,fun y hy=>by
  rcases List.mem_append.1 hy with hy | hy
  ·exact h.hc.2 y hy
  ·simp only[List.mem_singleton]at hy
   subst hy;exact J⟩
 have hold:∀g,v'.ownBlock=some g->g≠U.heap.size+2/\ov.ownBlock≠some g:=fun g Q=>by
  rcases q with e | e
  ·rw[e]at Q;exact⟨(C g Q).2.2,h.ap g Q⟩
  ·rw[e]at Q;simp at Q;have N:=x0B h.hx;refine⟨f6J,fun f=>?_⟩;have:=(h.ho.1.lt g f).2;omega
 obtain⟨A,i,B,l⟩:=h.hm;refine⟨F,⟨?_,⟨A,i,?_,l⟩,?_,?_,?_,fun g Q=>(hold g Q).2,?_⟩⟩
 ·exact v2g
 ·rw[x0g _ f6J,I _ (x0B B) (fun e=>(C _ e).2.1 rfl)];exact B
 ·rw[x0f F];rfl
 ·exact X.keep fun g Q=>by rw[x0g _ (hold g Q).1]
 ·refine h.ho.keep fun g Q=>?_;rw[x0g _ (h.far h.ho g Q).2.2,I g (h.ho.1.lt g Q).2 (fun e=>h.ap g e Q)]
 ·have b1:Bw U w1:=(h.bel.alloc h.bel.size o).grown Y (by have:=h.bel.size;exact P8P) (fun k G=>(h.hc.1.lt k G).1);exact x0d b1 f6J v'
theorem NI.opens{U W w1:World}{c:Int->Int->Option Int}{cv ov v':Value}{u B:List Sp}{o:Obj}{x:Sp}(h:NI U W c cv ov u B)(J:Sk .i32 U (sval x) x.1.to/\RecFit x.1)
  (s:w1.ownsRow U.heap.size 67 8 v' (B.length+1) (B.flatMap encR++encR x)) (Y:(W.alloc o).grownBy w1 ov.ownBlock) (q:v'.ownBlock=ov.ownBlock\/v'.ownBlock=some (W.heap.size+1)) :
  w1.heap[U.heap.size+2]?=some (.cells #[cv,ov,.map (some (U.heap.size+1))] 125 (0,0))/\NI U (w1.setCell ⟨U.heap.size+2,1,none⟩ v') c cv v' u (B++[x]):=by
 have L:∀g,g<W.heap.size->(W.alloc o).heap[g]?=W.heap[g]?:=fun g Y=>((Below.refl W.heap.size W).alloc (l0r _) _).block g Y
 have I:∀g,g<W.heap.size->ov.ownBlock≠some g->w1.heap[g]?=W.heap[g]?:=fun g D Z=>t9i
 have C:=h.far h.ho;have F:w1.heap[U.heap.size+2]?=some (.cells #[cv,ov,.map (some (U.heap.size+1))] 125 (0,0)):=v5f
 have X:Rsh U w1 v' (B++[x]):=⟨by simpa using s,fun y hy=>by
  rcases List.mem_append.1 hy with hy | hy
  ·exact h.ho.2 y hy
  ·simp only[List.mem_singleton]at hy
   subst hy;exact J⟩
 have hold:∀g,v'.ownBlock=some g->g≠U.heap.size+2/\cv.ownBlock≠some g:=fun g Q=>by
  rcases q with e | e
  ·rw[e]at Q;exact⟨(C g Q).2.2,fun f=>h.ap g f Q⟩
  ·rw[e]at Q;simp at Q;have N:=x0B h.hx;refine⟨f6J,fun f=>?_⟩;have:=(h.hc.1.lt g f).2;omega
 obtain⟨A,i,H,l⟩:=h.hm;refine⟨F,⟨?_,⟨A,i,?_,l⟩,?_,?_,?_,fun g D Z=>(hold g Z).2 D,?_⟩⟩
 ·exact v2g
 ·rw[x0g _ f6J,I _ (x0B H) (fun e=>(C _ e).2.1 rfl)];exact H
 ·rw[x0f F];rfl
 ·refine h.hc.keep fun g Q=>?_;rw[x0g _ (h.far h.hc g Q).2.2,I g (h.hc.1.lt g Q).2 (fun e=>h.ap g Q e)]
 ·exact X.keep fun g Q=>by rw[x0g _ (hold g Q).1]
 ·have b1:Bw U w1:=(h.bel.alloc h.bel.size o).grown Y (by have:=h.bel.size;exact P8P) (fun k G=>(h.ho.1.lt k G).1);exact x0d b1 f6J v'
theorem NI.upd{U W:World}{c c':Int->Int->Option Int}{cv ov:Value}{u D:List Sp}{A:Array MapEntry}{cl:Nat}(h:NI U W c cv ov u D)(y:PObj A cl c'):NI U (setBlock W (U.heap.size+1) (.map A cl)) c' cv ov u D:=by
 obtain⟨C,B,F,_⟩:=h.hm;have H:=x0B F;refine⟨by rw[x1Z _ _ f6J];exact h.hr,⟨A,cl,y2C _ _ _ H,y⟩,by rw[x1Z _ _ f6J];exact h.hx,?_,?_,h.ap,?_⟩
 ·exact h.hc.keep fun g Y=>x1Z _ _ (h.far h.hc g Y).2.1
 ·exact h.ho.keep fun g Y=>x1Z _ _ (h.far h.ho g Y).2.1
 ·exact h.bel.trans (x4C _ W _ _ f6J)
namespace Cn
theorem y7A{k:Int}(h:fam k=2):k=6:=by
 revert h;exact r2C
theorem fam_three'{k:Int}(h:fam k=3):k=7\/k=8:=by
 revert h;exact r2C
def y6d(a b:Rec):Prop:=right a=0/\right b=0/\clash a b=false
theorem x3C{f:Int}(B:f=2\/f=3){l cs:List Rec}{p:Rec->Bool}(S:(check6 l).2=0)(A:∀r,p r=true↔fam r.kind=f)(C:cs.Perm (l.filter p))(X:cs.Pairwise fun a b=>a.lo<=b.lo):x1x f cs/\∀r,r∈cs↔r∈l/\fam r.kind=f:=by
 obtain⟨_,u,I⟩:=x0m.1 S;have U:∀r,r∈cs↔r∈l/\fam r.kind=f:=fun r=>(by rw[C.mem_iff,List.mem_filter,A]);have D:l.Pairwise y6d:=I.imp_of_mem fun{a b} ha hb h=>⟨u a ha,u b hb,h⟩;have Z:(l.filter p).Pairwise y6d:=D.filter p;have R:cs.Pairwise y6d:=(C.pairwise_iff (fun{x y} ⟨a,b,c⟩=>⟨b,a,z1b a b c⟩)).2 Z;exact⟨y5q B (fun r J=>⟨u r ((U r).1 J).1,((U r).1 J).2⟩) (R.imp fun⟨_,_,c⟩=>c) X,U⟩
end Cn
