import Derived.Test.YtbmckadcjdedcaaGreatDoorF9
import Derived.Shelf.SlSortCmp.WholeK
import Derived.Test.YtbmckadcjdedcaaGreatDoorF12
set_option maxHeartbeats 8000000
set_option maxRecDepth 8000
namespace Go.Proofs.YtbmckadcjdedcaaGreatDoor
open Go.Proofs.Tryz
open Go.RowKit
section
variable{p:Prop}
theorem u6L(h:p:=by go_wp2_with fail;refine(V K _).mono ?_;rintro e Q ⟨rfl,rfl⟩;go_wp2;go_ret;exact⟨rfl,0,_,by rw[alloc_eq_grow,alloc_eq_grow,grow_grow];rfl⟩):p:=h
theorem P7w(h:p:=by simp[Instr.lookup,run_underlying underlying123,MapKept.run_getObj_map Y,pairLaw2.check w _ S,Z,Result.andThen,f]):p:=h
theorem W6o(h:p:=by simp[Instr.lookup,run_underlying C,MapKept.run_getObj_map Y,L.check w _ _ G,Z,Result.andThen,o]):p:=h
theorem i8P(h:p:=by go_enter func132,ntmps132;go_wp2_with fail;refine c0m K1 fun Q J=>?_;have B:Below (w.heap.size+1) _ Q:=i.trans (J.mono (by have:=i.size;exact R6E));obtain⟨j,m,n⟩:=V HX Q B;have U:∀z,x0c w z (.returned (.bool z)) Q:=fun z=>⟨rfl,V Y _ B⟩;have o:=O (V aB Q (V Y _ B));go_wp2_with fail;refine c0m o fun d ae=>?_;have A:Below (w.heap.size+1) _ d:=B.trans (ae.mono (by have:=B.size;exact R6E));obtain⟨q,s,u⟩:=V HX d A;have X:∀z,x0c w z (.returned (.bool z)) d:=fun z=>⟨rfl,V Y _ A⟩;have K3:=O (V P d (V Y _ A));go_wp2_with fail;refine(V K3).mono ?_;rintro e w3 ⟨az,rfl,L,F⟩;have C:Below (w.heap.size+1) _ w3:=A.trans (F.mono (by have:=A.size;exact R6E));obtain⟨ag,g,rfl,_,_⟩:=(OpB.sk L (V Y _ A) F).shape;obtain⟨aj,D,am⟩:=V HX w3 C;have p:∀z,x0c w z (.returned (.bool z)) w3:=fun z=>⟨rfl,V Y _ C⟩;have K4:=O (V aC w3 (V Y _ C));go_wp2_with fail;refine(V K4).mono ?_;rintro e G ⟨aA,rfl,N,I⟩;have ab:Below (w.heap.size+1) _ G:=C.trans (I.mono (by have:=C.size;exact R6E));obtain⟨aq,af,rfl,_,_⟩:=(OpB.sk N (V Y _ C) I).shape;obtain⟨H,ar,aw⟩:=V HX G ab;have f:∀z,x0c w z (.returned (.bool z)) G:=fun z=>⟨rfl,V Y _ ab⟩;have K5:=O (V aJ G (V Y _ ab));go_wp2_with fail;refine c0m K5 fun w5 ai=>?_;have R:Below (w.heap.size+1) _ w5:=ab.trans (ai.mono (by have:=ab.size;exact R6E));obtain⟨aG,aH,aI⟩:=V HX w5 R;have y:∀z,x0c w z (.returned (.bool z)) w5:=fun z=>⟨rfl,V Y _ R⟩;have HF:=y true;go_wp2;go_ret;exact HF):p:=h
theorem f0B(h:p:=by go_wp2;refine wp_loop_rounds 1 ?_;rw[rounds_succ];go_wp2;go_end0;exact g9S):p:=h
theorem r2O(h:p:=by unfold putRowK;rw[size_putRow];rfl):p:=h
theorem W9K(h:p:=by simp[Instr.lookup,run_underlying underlying123,MapKept.run_getObj_map Y,pairLaw2.check w _ S,Z,Result.andThen]):p:=h
theorem m0L(h:p:=by simp only[Value.slice.injEq,Option.some.injEq,Addr.mk.injEq,and_true]at N;obtain⟨rfl,_,_⟩:=N;exact x0e a):p:=h
theorem m8y(h:p:=by
 (try simp only[Exit.inBlock,Exit.then]);refine bodyPost_ret (results_none rfl _ _ _) rfl ?_
 exact g9S):p:=h
theorem F1o(h:p:=by simp[Instr.lookup,run_underlying C,MapKept.run_getObj_map Y,L.check w _ _ G,Z,Result.andThen]):p:=h
theorem s1z(h:p:=by go_enter func132,ntmps132;go_wp2_with fail;refine c0m K1 fun Q J=>?_;have B:Below (w.heap.size+1) _ Q:=i.trans (J.mono U3w);obtain⟨j,m,n⟩:=V HX Q B;have U:∀z,x0c w z (.returned (.bool z)) Q:=fun z=>⟨rfl,V Y _ B⟩;have o:=O (V aB Q (V Y _ B));go_wp2_with fail;refine c0m o fun d ae=>?_;have A:Below (w.heap.size+1) _ d:=B.trans (ae.mono w2A);obtain⟨q,s,u⟩:=V HX d A;have X:∀z,x0c w z (.returned (.bool z)) d:=fun z=>⟨rfl,V Y _ A⟩;have K3:=O (V P d (V Y _ A));go_wp2_with fail;refine(V K3).mono ?_;rintro e w3 ⟨az,rfl,L,F⟩;have C:Below (w.heap.size+1) _ w3:=A.trans (F.mono M0L);obtain⟨ag,g,rfl,_,_⟩:=(OpB.sk L (V Y _ A) F).shape;obtain⟨aj,D,am⟩:=V HX w3 C;have p:∀z,x0c w z (.returned (.bool z)) w3:=fun z=>⟨rfl,V Y _ C⟩;have K4:=O (V aC w3 (V Y _ C));go_wp2_with fail;refine(V K4).mono ?_;rintro e G ⟨aA,rfl,N,I⟩;have ab:Below (w.heap.size+1) _ G:=C.trans (I.mono M0w);obtain⟨aq,af,rfl,_,_⟩:=(OpB.sk N (V Y _ C) I).shape;obtain⟨H,ar,aw⟩:=V HX G ab;have f:∀z,x0c w z (.returned (.bool z)) G:=fun z=>⟨rfl,V Y _ ab⟩;have HF:=f true;go_wp2;go_ret;exact HF):p:=h
theorem R6E(h:p:=by rw[S]at this;exact f6J):p:=h
theorem i1T(h:p:=by rw[Array.getElem?_append_left f6J];show(w.heap.modify blk _)[k]?=_;rw[Array.getElem?_modify,if_neg (fun e=>F (by rw[e]))]):p:=h
theorem G2Z(h:p:=by rw[ltLo]at *;simp at *;exact f6J):p:=h
theorem R6F(h:p:=by rw[S]at this;exact f6J):p:=h
theorem M2J(h:p:=by rw[B _ (x0B h.hx) (fun e=>(d _ e).2.2 rfl)];exact h.hx):p:=h
theorem U3w(h:p:=by have:=i.size;exact R6F):p:=h
theorem e7q(h:p:=by rw[x0g _ f6J,B _ (x0B h.hr) (fun e=>(d _ e).1 rfl)];exact h.hr):p:=h
theorem w2A(h:p:=by have:=B.size;exact R6F):p:=h
theorem v4h(h:p:=by have P:L.extract 0 xs.toArray.size=L:=(by grind);rw[P]at b;simpa using b):p:=h
theorem E8o(h:p:=by rw[x0g _ f6J,B _ (x0B s) (fun e=>(d _ e).2.1 rfl)];exact s):p:=h
theorem M0L(h:p:=by have:=A.size;exact R6F):p:=h
theorem M0w(h:p:=by have:=C.size;exact R6F):p:=h
end
def Cn.wpair(l:List Rec)(c a b:Int):Bool:=decide (Cn.cls l c≠0)||decide (Cn.cls l a≠0)||decide (Cn.opn l b≠[])||(decide (Cn.opn l a≠[])&&(Cn.prim l a).isNone)||decide (b<128)||decide (a=46)
theorem Cn.pair_w l i r:Cn.pair l i r=(!(Cn.wpair l r.lo (r.to.getD 0 0) (r.to.getD 1 0))&&!((l.take i).any fun k=>decide (k.kind=7/\k.to.getD 0 0=r.to.getD 0 0/\k.to.getD 1 0=r.to.getD 1 0))):=rfl
theorem y9r{zs:List Int}:decide (zs≠[])=decide (0<zs.length):=by
 cases zs<;>simp
theorem OpB.sk{w0 w w1 v zs}(h:Sk .i32 w0 v zs\/Ok .i32 21 w1 w.heap.size v zs)(t:Bw w0 w)(Y:Bw w w1):Sk .i32 w1 v zs:=by
 rcases h with h|h
 ·exact(h.below t).below Y
 ·exact h.sk
theorem z0R l cs os cv ov mr c a b w(hg:Glob w)(h:Idx l w cv ov cs os)(hc:Rune c)(ha:Rune a)(aK:Rune b):Calls prog 132 #[xV cv ov (.map (some mr)),.int .i32 c,.int .i32 a,.int .i32 b] w (x0c w (Cn.wpair l c a b)):=by
 obtain⟨aD,Z,rfl,_,_⟩:=h.rc.shape;obtain⟨aF,ay,rfl,_,_⟩:=h.ro.shape;have hb:Bw w (w.alloc (.cells #[.slice aD cs.length Z,.slice aF os.length ay,.map (some mr)] 125)):=(b0r).alloc (l0r _) _;have S:(w.alloc (.cells #[.slice aD cs.length Z,.slice aF os.length ay,.map (some mr)] 125)).heap.size=w.heap.size+1:=by simp
 have HX:Hid (∀W,Below (w.heap.size+1) (w.alloc (.cells #[.slice aD cs.length Z,.slice aF os.length ay,.map (some mr)] 125)) W->W.cell? ⟨w.heap.size,0,none⟩=some (.slice aD cs.length Z)/\W.cell? ⟨w.heap.size,1,none⟩=some (.slice aF os.length ay)/\W.cell? ⟨w.heap.size,2,none⟩=some (.map (some mr))):=fun W t=>f8G
 have Y:Hid (∀W,Below (w.heap.size+1) (w.alloc (.cells #[.slice aD cs.length Z,.slice aF os.length ay,.map (some mr)] 125)) W->Bw w W):=fun W t=>hb.trans (t.mono f6J);have KC:=O (fun W x (t:Bw w W) (hx:Rune x)=>x8A l cs os _ _ mr x W (hg.on t) (h.below t) hx);have KO:=O (fun W x (t:Bw w W) (hx:Rune x)=>y1F l cs os _ _ mr x w W hg h t hx);have KP:=O (fun W x (t:Bw w W) (hx:Rune x)=>z0X l cs os _ _ mr x W (hg.on t) (h.below t) hx);have K1:=O (V KC _ c hb hc);have aB:=O (fun W t=>V KC W a t ha);have P:=O (fun W t=>V KO W b t aK);have aC:=O (fun W t=>V KO W a t ha);have aJ:=O (fun W t=>V KP W a t ha)
 have h0:Cn.wpair l c a b=(decide (Cn.cls l c≠0)||decide (Cn.cls l a≠0)||decide (0<(Cn.opn l b).length)||(decide (0<(Cn.opn l a).length)&&!(Cn.prim l a).isSome)||decide (b<128)||decide (a=46)):=by
  unfold Cn.wpair;rw[y9r,y9r];cases Cn.prim l a<;>rfl
 rw[h0];have i:Below (w.heap.size+1) (w.alloc (.cells #[.slice aD cs.length Z,.slice aF os.length ay,.map (some mr)] 125)) (w.alloc (.cells #[.slice aD cs.length Z,.slice aF os.length ay,.map (some mr)] 125)):=b0r;generalize Cn.cls l c=n1,Cn.cls l a=n2,Cn.opn l b=z3,Cn.opn l a=z4,(Cn.prim l a).isSome=p5 at *;unfold xV at *;by_cases q1:n1≠0
 ·rw[d0t q1];simp only[Bool.true_or];have d1:(n1 != 0)=true:=(by simp[q1]);go_enter func132,ntmps132;go_wp2_with fail;refine c0m K1 fun Q J=>?_;have B:Below (w.heap.size+1) _ Q:=i.trans (J.mono U3w);obtain⟨j,m,n⟩:=V HX Q B;have U:∀z,x0c w z (.returned (.bool z)) Q:=fun z=>⟨rfl,V Y _ B⟩;have HF:=U true;go_wp2;go_ret;exact HF
 ·obtain rfl:n1=0:=f6J;rw[d0f q1];simp only[Bool.false_or];by_cases q2:n2≠0
  ·rw[d0t q2];simp only[Bool.true_or];have d2:(n2 != 0)=true:=(by simp[q2]);go_enter func132,ntmps132;go_wp2_with fail;refine c0m K1 fun Q J=>?_;have B:Below (w.heap.size+1) _ Q:=i.trans (J.mono U3w);obtain⟨j,m,n⟩:=V HX Q B;have U:∀z,x0c w z (.returned (.bool z)) Q:=fun z=>⟨rfl,V Y _ B⟩;have o:=O (V aB Q (V Y _ B));go_wp2_with fail;refine c0m o fun d ae=>?_;have A:Below (w.heap.size+1) _ d:=B.trans (ae.mono w2A);obtain⟨q,s,u⟩:=V HX d A;have X:∀z,x0c w z (.returned (.bool z)) d:=fun z=>⟨rfl,V Y _ A⟩;have HF:=X true;go_wp2;go_ret;exact HF
  ·obtain rfl:n2=0:=f6J;rw[d0f q2];simp only[Bool.false_or];by_cases q3:0<z3.length
   ·rw[d0t q3];simp only[Bool.true_or];have d3:(0:Int)<(z3.length:Int):=f6J;go_enter func132,ntmps132;go_wp2_with fail;refine c0m K1 fun Q J=>?_;have B:Below (w.heap.size+1) _ Q:=i.trans (J.mono U3w);obtain⟨j,m,n⟩:=V HX Q B;have U:∀z,x0c w z (.returned (.bool z)) Q:=fun z=>⟨rfl,V Y _ B⟩;have o:=O (V aB Q (V Y _ B));go_wp2_with fail;refine c0m o fun d ae=>?_;have A:Below (w.heap.size+1) _ d:=B.trans (ae.mono w2A);obtain⟨q,s,u⟩:=V HX d A;have X:∀z,x0c w z (.returned (.bool z)) d:=fun z=>⟨rfl,V Y _ A⟩;have K3:=O (V P d (V Y _ A));go_wp2_with fail;refine(V K3).mono ?_;rintro e w3 ⟨az,rfl,L,F⟩;have C:Below (w.heap.size+1) _ w3:=A.trans (F.mono M0L);obtain⟨ag,g,rfl,_,_⟩:=(OpB.sk L (V Y _ A) F).shape;obtain⟨aj,D,am⟩:=V HX w3 C;have p:∀z,x0c w z (.returned (.bool z)) w3:=fun z=>⟨rfl,V Y _ C⟩;have HF:=p true;go_wp2;go_ret;exact HF
   ·obtain rfl:z3=[]:=List.eq_nil_of_length_eq_zero f6J;rw[d0f q3];simp only[Bool.false_or];by_cases q4:0<z4.length
    ·rw[d0t q4];simp only[Bool.true_and];have d4:(0:Int)<(z4.length:Int):=f6J;cases p5
     ·simp only[Bool.not_false,Bool.true_or];exact i8P
     ·simp only[Bool.not_true,Bool.false_or];by_cases q6:b<128
      ·rw[d0t q6,Bool.true_or];exact i8P
      ·have d6:decide (b<128)=false:=d0f q6;rw[d6,Bool.false_or];by_cases q7:a=46
       ·rw[d0t q7];subst q7;exact i8P
       ·rw[d0f q7];have d7:(a==46)=false:=b0f q7;go_enter func132,ntmps132;go_wp2_with fail;refine c0m K1 fun Q J=>?_;have B:Below (w.heap.size+1) _ Q:=i.trans (J.mono U3w);obtain⟨j,m,n⟩:=V HX Q B;have U:∀z,x0c w z (.returned (.bool z)) Q:=fun z=>⟨rfl,V Y _ B⟩;have o:=O (V aB Q (V Y _ B));go_wp2_with fail;refine c0m o fun d ae=>?_;have A:Below (w.heap.size+1) _ d:=B.trans (ae.mono w2A);obtain⟨q,s,u⟩:=V HX d A;have X:∀z,x0c w z (.returned (.bool z)) d:=fun z=>⟨rfl,V Y _ A⟩;have K3:=O (V P d (V Y _ A));go_wp2_with fail;refine(V K3).mono ?_;rintro e w3 ⟨az,rfl,L,F⟩;have C:Below (w.heap.size+1) _ w3:=A.trans (F.mono M0L);obtain⟨ag,g,rfl,_,_⟩:=(OpB.sk L (V Y _ A) F).shape;obtain⟨aj,D,am⟩:=V HX w3 C;have p:∀z,x0c w z (.returned (.bool z)) w3:=fun z=>⟨rfl,V Y _ C⟩;have K4:=O (V aC w3 (V Y _ C));go_wp2_with fail;refine(V K4).mono ?_;rintro e G ⟨aA,rfl,N,I⟩;have ab:Below (w.heap.size+1) _ G:=C.trans (I.mono M0w);obtain⟨aq,af,rfl,_,_⟩:=(OpB.sk N (V Y _ C) I).shape;obtain⟨H,ar,aw⟩:=V HX G ab;have f:∀z,x0c w z (.returned (.bool z)) G:=fun z=>⟨rfl,V Y _ ab⟩;have K5:=O (V aJ G (V Y _ ab));go_wp2_with fail;refine c0m K5 fun w5 ai=>?_;have R:Below (w.heap.size+1) _ w5:=ab.trans (ai.mono (by have:=ab.size;exact R6F));obtain⟨aG,aH,aI⟩:=V HX w5 R;have y:∀z,x0c w z (.returned (.bool z)) w5:=fun z=>⟨rfl,V Y _ R⟩;have HF:=y false;go_wp2;go_ret;exact HF
    ·obtain rfl:z4=[]:=List.eq_nil_of_length_eq_zero f6J;rw[d0f q4];simp only[Bool.false_and,Bool.false_or];by_cases q6:b<128
     ·rw[d0t q6,Bool.true_or];exact s1z
     ·have d6:decide (b<128)=false:=d0f q6;rw[d6,Bool.false_or];by_cases q7:a=46
      ·rw[d0t q7];subst q7;exact s1z
      ·rw[d0f q7];have d7:(a==46)=false:=b0f q7;go_enter func132,ntmps132;go_wp2_with fail;refine c0m K1 fun Q J=>?_;have B:Below (w.heap.size+1) _ Q:=i.trans (J.mono U3w);obtain⟨j,m,n⟩:=V HX Q B;have U:∀z,x0c w z (.returned (.bool z)) Q:=fun z=>⟨rfl,V Y _ B⟩;have o:=O (V aB Q (V Y _ B));go_wp2_with fail;refine c0m o fun d ae=>?_;have A:Below (w.heap.size+1) _ d:=B.trans (ae.mono w2A);obtain⟨q,s,u⟩:=V HX d A;have X:∀z,x0c w z (.returned (.bool z)) d:=fun z=>⟨rfl,V Y _ A⟩;have K3:=O (V P d (V Y _ A));go_wp2_with fail;refine(V K3).mono ?_;rintro e w3 ⟨az,rfl,L,F⟩;have C:Below (w.heap.size+1) _ w3:=A.trans (F.mono M0L);obtain⟨ag,g,rfl,_,_⟩:=(OpB.sk L (V Y _ A) F).shape;obtain⟨aj,D,am⟩:=V HX w3 C;have p:∀z,x0c w z (.returned (.bool z)) w3:=fun z=>⟨rfl,V Y _ C⟩;have K4:=O (V aC w3 (V Y _ C));go_wp2_with fail;refine(V K4).mono ?_;rintro e G ⟨aA,rfl,N,I⟩;have ab:Below (w.heap.size+1) _ G:=C.trans (I.mono M0w);obtain⟨aq,af,rfl,_,_⟩:=(OpB.sk N (V Y _ C) I).shape;obtain⟨H,ar,aw⟩:=V HX G ab;have f:∀z,x0c w z (.returned (.bool z)) G:=fun z=>⟨rfl,V Y _ ab⟩;have HF:=f false;go_wp2;go_ret;exact HF
open Go.RowKit Go.Sort Go.Shelf
abbrev Sp:=Rec×Option Addr×Nat×Nat
def sval(x:Sp):Value:=.slice x.2.1 x.2.2.1 x.2.2.2
def encR(x:Sp):List Value:=x0z (x.1,sval x)
theorem y3D(x:Sp):(encR x).length=8:=rfl
theorem x8O(x:Sp):∀v∈encR x,v.oneCell'=true:=x6W x.1 rfl
def loOf(x y:Sp):Int:=Lib.compareInt x.1.lo y.1.lo
theorem ltLo(x y:Sp):ltOf loOf x y=decide (x.1.lo<y.1.lo):=by
 unfold ltOf loOf Lib.compareInt;by_cases Z:x.1.lo<y.1.lo
 ·simp[Z]
 ·grind
theorem swoLo:SWO (ltOf loOf):={
 irrefl:=fun x=>by rw[ltLo];exact M7L
 trans:=fun x y z Z D=>G2Z
 ntrans:=fun x y z Z D=>G2Z }
theorem z1x(x y:Sp) W:Calls prog 128 #[.agg (encR x).toArray,.agg (encR y).toArray] W fun e w'=>e=.returned (.int .i64 (loOf x y))/\∃q A,w'=grow (W.drewN q) A:=by
 have K:=O (fun W=>x2Z x.1.lo y.1.lo W);have e:Lib.compareInt x.1.lo y.1.lo=loOf x y:=rfl;rw[e]at K;obtain⟨a,R,C,B⟩:=x;obtain⟨b,f,G,D⟩:=y;show Calls prog 128 #[.agg #[.int .i64 a.kind,.int .i64 a.lo,.int .i64 a.hi,.int .i64 a.n,.slice R C B,.string a.name,.string a.other,.float .f64 a.wt],.agg #[.int .i64 b.kind,.int .i64 b.lo,.int .i64 b.hi,.int .i64 b.n,.slice f G D,.string b.name,.string b.other,.float .f64 b.wt]] W _;go_enter func128,ntmps128;exact u6L
def z7p(w0:World)(xs:List Sp):Prop:=∀x∈xs,Sk .i32 w0 (sval x) x.1.to/\RecFit x.1
def Rsh(w0 w:World)(v:Value)(xs:List Sp):Prop:=w.ownsRow w0.heap.size 67 8 v xs.length (xs.flatMap encR)/\z7p w0 xs
def Rsx(w0 w:World)(v:Value)(xs:List Sp):Prop:=z7p w0 xs/\((xs=[]/\∃ao cap,v=.slice ao 0 cap/\cap<=9223372036854775807) \/
 ∃blk cap,v=.slice (some ⟨blk,0,none⟩) xs.length cap/\w0.heap.size<=blk/\blk<w.heap.size/\xs.length<=cap/\cap<=9223372036854775807/\∀i j,i<xs.length->j<8->w.cell? ⟨blk,i*8+j,none⟩=some ((encR (xs.getD i (Cn.none,none,0,0)))[j]!))
theorem y2m(xs:List Sp):xs.flatMap encR=rcells (xs.map fun x=>(x.1,sval x)):=by
 induction xs with
 | nil=>rfl
 | cons x xs ih=>rw[List.flatMap_cons,ih];rfl
theorem x8T(xs:List Sp) i j(hi:i<xs.length)(A:j<8):(xs.flatMap encR)[i*8+j]?=some ((encR (xs.getD i (Cn.none,none,0,0)))[j]!):=by
 rw[y2m,x1v _ i j w3y A];have e:(xs.map fun x=>(x.1,sval x)).getD i (Cn.none,undef)=((xs.getD i (Cn.none,none,0,0)).1,sval (xs.getD i (Cn.none,none,0,0))):=(by grind);rw[e];show(encR (xs.getD i (Cn.none,none,0,0)))[j]?=_;have S:=y3D (xs.getD i (Cn.none,none,0,0));rw[List.getElem?_eq_getElem (by rw[S];exact A),getElem!_pos _ j (by rw[S];exact A)]
theorem Rsx.keep{w0 w w' v}{xs:List Sp}(h:Rsx w0 w v xs)(U:w.heap.size<=w'.heap.size)(G:∀g,v.ownBlock=some g->w'.heap[g]?=w.heap[g]?):Rsx w0 w' v xs:=by
 refine⟨h.1,?_⟩;rcases h.2 with D|⟨blk,A,rfl,Z,D,R,H,p⟩
 ·exact .inl D
 ·exact .inr ⟨blk,A,rfl,Z,f6J,R,H,fun i j hi B=>by rw[World.cell?_of_block (G blk rfl)];exact p i j hi B⟩
theorem Rsx.rcs{w0 w v}{xs:List Sp}(h:Rsx w0 w v xs)(t:Bw w0 w)(S:xs.length<=1000000000):Rcs w v (xs.map (·.1)):=by
 refine⟨t2Y,fun r u=>?_,?_⟩
 ·obtain⟨x,J,rfl⟩:=List.mem_map.1 u;exact(h.1 x J).2
 ·rcases h.2 with⟨rfl,R,A,rfl,I⟩|⟨blk,A,rfl,Z,D,B,H,p⟩
  ·exact .inl ⟨rfl,R,A,rfl,I⟩
  ·refine .inr ⟨blk,0,A,M7L,by simpa using B,H,fun i hi=>?_⟩;rw[List.length_map]at hi;have e:(xs.map (·.1)).getD i Cn.none=(xs.getD i (Cn.none,none,0,0)).1:=(by grind);have C:xs.getD i (Cn.none,none,0,0)∈xs:=(by grind);rw[e,Nat.zero_add];exact⟨p i 0 hi f6J,p i 1 hi f6J,p i 2 hi f6J,p i 3 hi f6J,⟨_,p i 4 hi f6J,(h.1 _ C).1.below t⟩,p i 5 hi f6J,p i 6 hi f6J,p i 7 hi f6J⟩
theorem Rsh.rsx{w0 w v}{xs:List Sp}(h:Rsh w0 w v xs):Rsx w0 w v xs:=by
 refine⟨h.2,?_⟩;have Z:=h.1;rcases h.1.2 with⟨rfl,A⟩|⟨g,B,D,rfl,C,a,G,t,q,Q⟩
 ·grind
 ·refine .inr ⟨g,B,rfl,C,(Z.lt g rfl).2,G,v9x,fun i j hi F=>?_⟩;have e:=Z.cells (g:=g) rfl (i*8+j) _ (x8T xs i j hi F);rw[addr_add,Nat.zero_add]at e;exact e
theorem Rsh.holds[Inhabited Rec]{w0 w}{xs:List Sp}{g cap}(h:Rsh w0 w (.slice (some ⟨g,0,none⟩) xs.length cap) xs):HoldsK encR 8 w g 0 xs.toArray:=by
 intro j B;rw[size_flatK]at B;have W:j<xs.length*8:=(by simpa using B);rw[get_flatK _ _ _ _ B];have hd:j / 8<xs.length:=f6J
 have e:=h.1.cells (g:=g) rfl j _ (by
  have:=x8T xs (j / 8) (j%8) hd f6J;rw[(f6J:j / 8*8+j%8=j)]at this
  exact this)
 rw[addr_add,Nat.zero_add]at e;have A:xs.toArray[j / 8]! = xs.getD (j / 8) (Cn.none,none,0,0):=(by grind);rw[A,Nat.zero_add];refine⟨e,?_⟩;rcases h.1.2 with⟨N,_⟩|⟨S,J,C,N,_,a,_⟩
 ·simp at N
 ·exact m0L
theorem y6r[Inhabited Rec]{w:World}{blk n}{d:Array Sp}{Y:Array Obj}:w.grownBy (sortWorldK encR 8 w blk 0 n d Y) (some blk):=by
 refine⟨rfl,rfl,rfl,?_,fun k G F=>?_⟩
 ·show w.heap.size<=((putRowK encR 8 (Sort.ahead w n) blk 0 d).heap++Y).size;rw[Array.size_append];have:(putRowK encR 8 (Sort.ahead w n) blk 0 d).heap.size=w.heap.size:=r2O;omega
 ·show((putRowK encR 8 (Sort.ahead w n) blk 0 d).heap++Y)[k]?=_;have U:(putRowK encR 8 (Sort.ahead w n) blk 0 d).heap.size=w.heap.size:=r2O;exact i1T
theorem z5P p cap fv w:Calls prog 218 #[.slice p 0 cap,.int .i64 0,.int .i64 0,fv] w fun e w'=>e=.returned (.tuple #[])/\w'=w:=by
 go_enter func218,ntmps218;exact f0B
theorem z6w p cap lim fv w:Calls prog 170 #[.slice p 0 cap,.int .i64 0,.int .i64 0,.int .i64 lim,fv] w fun e w'=>e=.returned (.tuple #[])/\w'=w:=by
 have hi:=fun W=>z5P p cap fv W;go_enter func170,ntmps170;go_wp2;refine wp_loop_rounds 1 ?_;rw[rounds_succ];go_wp2_with(go_at_call 218;refine(hi _).mono ?_;rintro e w' ⟨rfl,rfl⟩)
 exact m8y
theorem z3i p cap fv w:Calls prog 127 #[.slice p 0 cap,fv] w fun e w'=>e=.returned (.tuple #[])/\w'=w:=by
 have S:∀W,Calls prog 171 #[.int .u64 0] W fun e w'=>e=.returned (.int .i64 0)/\w'=W:=fun W =>
  Any.bits_Len (SlLaysF0.n15.bits (P:=prog) (ρ:=Tryz.lays127_ren) { Tryz.lays127 with }) 0 W f6J f6J
 have L:=fun A W=>z6w p cap A fv W;go_enter func127,ntmps127;go_wp2_with(first| (go_at_call 171;refine(S _).mono ?_;rintro e w' ⟨rfl,rfl⟩)|(go_at_call 170;refine(L _ _).mono ?_;rintro e w' ⟨rfl,rfl⟩));go_end0;exact⟨rfl,rfl⟩
def SortB(w0 w:World)(v:Value)(xs:List Sp)(e:Ending)(w':World):Prop:=e=.returned (.tuple #[])/\∃xs':List Sp,xs'.Perm xs/\(xs'.Pairwise fun a b=>a.1.lo<=b.1.lo)/\Rsx w0 w' v xs'/\w.grownBy w' v.ownBlock
theorem y4p w0 w v(xs:List Sp)(h:Rsh w0 w v xs)(S:xs.length<=1000000000):Calls prog 127 #[v,.func (.func 128) #[] #[]] w (SortB w0 w v xs):=by
 have u:Inhabited Rec:=⟨Cn.none⟩;rcases h.1.2 with⟨rfl,A⟩|⟨g,B,m,rfl,C,a,s,t,q,Q⟩
 ·obtain rfl:xs=[]:=List.eq_nil_of_length_eq_zero A;refine(z3i none 0 _ w).mono ?_;rintro e l ⟨rfl,rfl⟩;exact⟨rfl,[],List.Perm.refl _,.nil,h.rsx,⟨rfl,rfl,rfl,l0r _,fun _ _ _=>rfl⟩⟩
 ·have H:=(h.1.lt g rfl).2;have d:=h.holds;have D:∀F w,(callFunc 128 F).run prog w=.ok (.enter 128 F) w:=enters_of func128 f4z rfl;have W:CmpLays prog 128 #[] encR 8 loOf g 0 xs.toArray.size w:=fun _ _ _ _ x y=>z1x x y _;have o:∀w,(isAgg 67).run prog w=.ok true w:=Tryz.isAgg67;have p:∀w,(Go.sizeOf 67).run prog w=.ok 8 w:=Tryz.sizeOf67;have K:=AnyQ.slices_SortFunc Tryz.lays127 8 o p encR y3D x8O loOf swoLo 128 #[] g 0 B xs.toArray w D W d H P8P;change Calls prog 127 #[.slice (some ⟨g,0,none⟩) xs.length B,_] w _ at K;refine K.mono ?_;rintro e l ⟨rfl,L,n,Y,⟨R,_,b⟩,U,rfl⟩;have f:L.size=xs.length:=by simpa using R
  have N:L.toList.Perm xs:=v4h
  have Z:SWK encR 8 w g 0 L (sortWorldK encR 8 w g 0 n L Y):=⟨n,Y,rfl⟩;have G:=Z.holds H d R;refine⟨rfl,L.toList,N,?_,⟨fun x J=>h.2 x (N.mem_iff.1 J),.inr ⟨g,B,by rw[show L.toList.length=xs.length by simpa using f],C,Z.lt H,by rw[Array.length_toList,f];exact s,v9z,fun i j hi X=>?_⟩⟩,y6r⟩
  ·rw[List.pairwise_iff_getElem];intro i j hi X I;have:=U i j (Nat.zero_le _) I (by simp at X ⊢;exact f6J);rw[ltLo,decide_eq_false_iff_not]at this;rw[getElem!_pos L j (by simpa using X),getElem!_pos L i w3D]at this;simp only[Array.getElem_toList];omega
  ·rw[Array.length_toList]at hi;have:=(G.cell (i:=i) (c:=j) hi X).1;rw[Nat.zero_add]at this;rw[this,getElem!_pos L i hi];exact n7D
open Go.RowKit Go.MapKept Go.WideMaps
open Go.ChangeMaps (setBlock)
theorem pairLaw2:KeyLaw prog 195:=deep_law_laid x5W (m:=3) e8N (o0d f4x) f4x f4x
def pk2(a b:Int):Value:=.agg #[.int .i32 a,.int .i32 b]
theorem y3w:prog.cellsOf 195=2:=f4x
theorem y7o:prog.cellsOf 21=1:=f4x
theorem y5B:prog.keyType 195=true:=f4x
theorem x3v{a}(h:Rune a) D:prog.keyLits (D+1) 21 [.int .i32 a]=some [.int .i32 a]:=by
 rw[Program.keyLits.eq_def];simp only[underlying21]
 have t:(Lit.int .i32 a).wf=true:=by
  unfold Rune at h;exact w7O
 rw[if_pos ⟨trivial,t⟩]
theorem y2w{a b}(g:Rune a)(Y:Rune b) D:prog.keyLits (D+2) 195 [.int .i32 a,.int .i32 b]=some [.int .i32 a,.int .i32 b]:=by
 rw[Program.keyLits.eq_def];simp only[underlying195,y3w,y7o];rw[if_pos (show[Value.int .i32 a,Value.int .i32 b].length=2 from rfl)];have e:List.range 2=[0,1]:=rfl;rw[e];simp[List.mapM_cons,x3v g D,x3v Y D]
theorem y2G{a b}(g:Rune a)(Y:Rune b):∃l,keyOf prog 195 (pk2 a b)=some l:=by
 have X:(pk2 a b).formed prog 195=true:=by
  simp[pk2,Value.formed,underlying195,y3w]
 obtain⟨n,A⟩:∃n,prog.types.size+1=n+2:=⟨prog.types.size-1,m4z⟩;refine⟨.string (keyBytes [.int .i32 a,.int .i32 b]),?_⟩;unfold keyOf;simp only[underlying195,y5B,X,Bool.and_self,if_true,A];show(prog.keyLits (n+2) 195 [.int .i32 a,.int .i32 b]).map _=_;rw[y2w g Y n];rfl
theorem y9H{a b a' b'}(h:pk2 a b=pk2 a' b'):a=a'/\b=b':=by
 unfold pk2 at h;exact S4r
structure PObj(es:Array MapEntry)(clock:Nat)(c:Int->Int->Option Int):Prop where
 st:Stamped es clock
 keys:∀x∈es.toList,∃a b n,x.key=pk2 a b/\x.val=.int .i64 n/\c a b=some n/\Rune a/\Rune b
 none:∀a b,(∀x∈es.toList,x.key≠pk2 a b)->c a b=none
def PAt(w:World)(r:Nat)(c:Int->Int->Option Int):Prop:=∃es clock,w.heap[r]?=some (.map es clock)/\PObj es clock c
theorem PObj.ks{A:Array MapEntry}{clock}{c:Int->Int->Option Int}(h:PObj A clock c):∀x∈A.toList,∃l,keyOf prog 195 x.key=some l:=fun x J=>by
 obtain⟨a,b,n,e,_,_,g,Y⟩:=h.keys x J;rw[e];exact y2G g Y
theorem z8T:PObj #[] 0 (fun _ _=>none):=⟨⟨fun x J=>by simp at J,M7K,M7K⟩,fun x J=>by simp at J,fun _ _ _=>rfl⟩
theorem look_ok{w r}{c:Int->Int->Option Int}(h:PAt w r c){a b}(g:Rune a)(Q:Rune b) :
  (Instr.lookup 123 (.map (some r)) (pk2 a b) true).run prog w=.ok (.tuple #[.int .i64 ((c a b).getD 0),.bool (c a b).isSome]) w/\(Instr.lookup 123 (.map (some r)) (pk2 a b) false).run prog w=.ok (.int .i64 ((c a b).getD 0)) w:=by
 obtain⟨A,clock,Y,h⟩:=h;obtain⟨l,S⟩:=y2G g Q;rcases pairLaw2.find w S A.toList h.ks with⟨Z,D⟩|⟨j,p,Z,D,R⟩
 ·rw[h.none a b D];refine⟨?_,?_⟩
  ·exact W9K
  ·exact W9K
 ·obtain⟨C,d,n,P,f,B,_,_⟩:=h.keys p (List.mem_of_getElem? D);obtain⟨rfl,rfl⟩:=y9H (P.symm.trans R);rw[B];refine⟨?_,?_⟩
  ·exact P7w
  ·exact P7w
def setP(c:Int->Int->Option Int)(a b n:Int):Int->Int->Option Int:=fun x y=>if x=a/\y=b then some n else c x y
theorem y6m{w r}{c:Int->Int->Option Int}(h:PAt w r c){a b}(g:Rune a)(Q:Rune b)(G:c a b=none) n :
  ∃q H,(Instr.mapUpdate 123 (.map (some r)) (pk2 a b) (.int .i64 n)).run prog w=.ok () (setBlock w r (.map q H))/\PObj q H (setP c a b n):=by
 obtain⟨A,clock,Y,h⟩:=h;obtain⟨l,S⟩:=y2G g Q;rcases pairLaw2.find w S A.toList h.ks with⟨Z,D⟩|⟨j,p,Z,D,R⟩
 ·refine⟨A.push ⟨pk2 a b,.int .i64 n,clock⟩,clock+1,?_,⟨stamped_push h.st D,fun x J=>?_,fun C d F=>?_⟩⟩
  ·simp[Instr.mapUpdate,run_underlying underlying123,MapKept.run_getObj_map Y,pairLaw2.check w false S,Z,MapKept.run_setObj_map _ Y,Result.andThen,setBlock]
  ·simp only[Array.toList_push,List.mem_append,List.mem_singleton]at J;rcases J with J|rfl
   ·obtain⟨C,d,m,P,f,B,o⟩:=h.keys x J;refine⟨C,d,m,P,f,?_,o⟩;unfold setP;rw[if_neg,B];rintro⟨rfl,rfl⟩;rw[G]at B;cases B
   ·exact⟨a,b,n,rfl,rfl,by unfold setP;rw[if_pos ⟨rfl,rfl⟩],g,Q⟩
  ·unfold setP;rw[if_neg]
   ·exact h.none C d fun x J=>F x G8c
   ·rintro⟨rfl,rfl⟩;exact F ⟨pk2 C d,.int .i64 n,clock⟩ M7K rfl
 ·obtain⟨C,d,m,P,f,B,_,_⟩:=h.keys p (List.mem_of_getElem? D);obtain⟨rfl,rfl⟩:=y9H (P.symm.trans R);rw[G]at B;cases B
theorem x8n r vt w(N:Sk .i32 w vt r.to)(D:r.to.length=2):Calls prog 126 #[recV r vt] w fun e w'=>e=.returned (pk2 (r.to.getD 0 0) (r.to.getD 1 0))/\Bw w w':=by
 obtain⟨b,P,F,rfl,_,I,y⟩:=N.place f6J;have G:=y 0 f6J;have m:=y 1 f6J;rw[Nat.add_zero]at G;have H:=x0a G;have A:∀W,Bw w W->W.cell? ⟨b,P,none⟩=some (.int .i32 (r.to.getD 0 0)):=fun W h=>(by rw[h.cell H];exact G);have B:∀W,Bw w W->W.cell? ⟨b,P+1,none⟩=some (.int .i32 (r.to.getD 1 0)):=fun W h=>(by rw[h.cell H];exact m);have l:Bw w ((w.alloc (.cells #[.int .i64 r.kind,.int .i64 r.lo,.int .i64 r.hi,.int .i64 r.n,.slice (some ⟨b,P,none⟩) 2 F,.string r.name,.string r.other,.float .f64 r.wt] 67)).alloc (.cells #[.int .i32 0,.int .i32 0] 195)):=((b0r).alloc (l0r _) _).alloc M7M _;have t:=A _ l;have J:=B _ l;rw[D];unfold recV pk2;generalize r.to.getD 0 0=p,r.to.getD 1 0=q at *;go_enter func126,ntmps126;go_wp2;go_region;go_wp2;go_returns;exact⟨rfl,(((b0r).alloc (l0r _) _).alloc M7M _).trans ((x0k ⟨1,rfl⟩).mono P8P)⟩
open Go.RowKit Go.MapKept Go.WideMaps
open Go.ChangeMaps (setBlock)
structure KL(T:TypeId)(K:Value->Prop):Prop where
 check:∀(w:World) (em:Bool) (v:Value),K v->(Instr.checkKey em 10000 T v).run prog w=.ok () w
 find:∀(w:World) (x:Value),K x->∀es:List MapEntry,(∀e∈es,K e.key)->((Instr.findKey T x es).run prog w=.ok none w/\∀e∈es,e.key≠x)\/∃j e,(Instr.findKey T x es).run prog w=.ok (some (j,e.val)) w/\es[j]?=some e/\e.key=x
 stays:∀(w:World) (v:Value),K v->(Instr.keyThatStays v v).run prog w=.ok v w
theorem KL.of{T}{K:Value->Prop}(h:KeyLaw prog T)(G:∀v,K v->∃l,keyOf prog T v=some l):KL T K :=
 ⟨fun w C v N=>by obtain⟨l,S⟩:=G v N;exact h.check w C S,fun w x J A B=>by obtain⟨l,S⟩:=G x J;exact h.find w S A (fun e d=>G _ (B e d)),fun w v N=>by obtain⟨l,S⟩:=G v N;exact h.stays w S⟩
structure GObj(K:Value->Prop)(es:Array MapEntry)(clock:Nat)(c:Value->Option Value):Prop where
 st:Stamped es clock
 keys:∀x∈es.toList,K x.key/\c x.key=some x.val
 none:∀k,(∀x∈es.toList,x.key≠k)->c k=none
def GAt(K:Value->Prop)(w:World)(r:Nat)(c:Value->Option Value):Prop:=∃es clock,w.heap[r]?=some (.map es clock)/\GObj K es clock c
theorem y8u(K:Value->Prop)(c:Value->Option Value)(h:∀k,c k=none):GObj K #[] 0 c:=⟨stamped_empty 0,fun x J=>by simp at J,fun k _=>h k⟩
section
variable {T M E:TypeId} {K:Value->Prop} {c c':Value->Option Value} {w:World} {r:Nat} {k z v:Value}
theorem z3L(L:KL T K)(C:prog.underlying M=some (.map T E))(o:∀w,(zeroValue E).run prog w=.ok z w)(h:GAt K w r c)(G:K k) :
  (Instr.lookup M (.map (some r)) k true).run prog w=.ok (.tuple #[(c k).getD z,.bool (c k).isSome]) w/\(Instr.lookup M (.map (some r)) k false).run prog w=.ok ((c k).getD z) w:=by
 obtain⟨A,clock,Y,h⟩:=h;rcases L.find w k G A.toList (fun e d=>(h.keys e d).1)with⟨Z,D⟩|⟨j,p,Z,D,R⟩
 ·rw[h.none k D];refine⟨?_,?_⟩
  ·exact W6o
  ·exact W6o
 ·have P:=(h.keys p (List.mem_of_getElem? D)).2;rw[R]at P;rw[P];refine⟨?_,?_⟩
  ·exact F1o
  ·exact F1o
theorem x8V(L:KL T K)(C:prog.underlying M=some (.map T E))(h:GAt K w r c)(G:K k)(Z:c' k=some v)(D:∀x,x≠k->c' x=c x) :
  ∃q H,(Instr.mapUpdate M (.map (some r)) k v).run prog w=.ok () (setBlock w r (.map q H))/\GObj K q H c':=by
 obtain⟨A,clock,Y,h⟩:=h;rcases L.find w k G A.toList (fun e d=>(h.keys e d).1)with⟨S,R⟩|⟨j,p,S,R,B⟩
 ·refine⟨A.push ⟨k,v,clock⟩,clock+1,?_,⟨stamped_push h.st R,fun x J=>?_,fun x Q=>?_⟩⟩
  ·simp[Instr.mapUpdate,run_underlying C,MapKept.run_getObj_map Y,L.check w false _ G,S,MapKept.run_setObj_map _ Y,Result.andThen,setBlock]
  ·simp only[Array.toList_push,List.mem_append,List.mem_singleton]at J;rcases J with J|rfl
   ·refine⟨(h.keys x J).1,?_⟩;rw[D _ (R x J)];exact(h.keys x J).2
   ·exact⟨G,Z⟩
  ·have X:x≠k:=fun e=>Q ⟨k,v,clock⟩ M7K e.symm;rw[D x X];exact h.none x fun y U=>Q y M1X
 ·have F:A[j]?=some p:=s4P;have a:j<A.size:=(Array.getElem?_eq_some_iff.1 F).1;refine⟨A.modify j fun e=>{ e with key:=k,val:=v },clock,?_,⟨stamped_modify h.st j _ (fun _ _=>rfl) (fun e _ d=>?_),fun x J=>?_,fun x Q=>?_⟩⟩
  ·simp[Instr.mapUpdate,run_underlying C,MapKept.run_getObj_map Y,L.check w false _ G,S,F,B,L.stays w _ G,MapKept.run_setObj_map _ Y,Result.andThen,setBlock]
  ·rw[F]at d;cases d;exact B.symm
  ·obtain⟨i,hi⟩:=List.getElem?_of_mem J;rw[Array.getElem?_toList,Array.getElem?_modify]at hi;by_cases I:j=i
   ·grind
   ·rw[if_neg I]at hi;have W:x∈A.toList:=List.mem_of_getElem? (by rw[Array.getElem?_toList];exact hi)
    have X:x.key≠k:=fun e=>by
     have N:=h.st.2.2;have P:(A.toList.map (·.key))[i]?=some k:=(by rw[List.getElem?_map,Array.getElem?_toList,hi,Option.map_some,e]);have f:(A.toList.map (·.key))[j]?=some k:=(by rw[List.getElem?_map,Array.getElem?_toList,F,Option.map_some,B]);have b:i<(A.toList.map (·.key)).length:=(List.getElem?_eq_some_iff.1 P).1;exact I ((List.getElem?_inj b N).1 (P.trans f.symm)).symm
    rw[D _ X];exact h.keys x W
  ·have X:x≠k:=fun e=>by
    have n:(⟨k,v,p.born⟩:MapEntry)∈(A.modify j fun e=>{ e with key:=k,val:=v }).toList:=by
     refine List.mem_of_getElem? (i:=j) ?_;rw[Array.getElem?_toList,Array.getElem?_modify,if_pos rfl,F];rfl
    exact Q _ n e.symm
   rw[D x X];refine h.none x fun y U=>?_;obtain⟨i,hi⟩:=List.getElem?_of_mem U;rw[Array.getElem?_toList]at hi;by_cases I:j=i
   ·subst I;rw[F]at hi;cases hi;rw[B];exact fun e=>X e.symm
   ·refine Q y (List.mem_of_getElem? (i:=i) ?_);rw[Array.getElem?_toList,Array.getElem?_modify,if_neg I];exact hi
end
namespace Cn
def isP(a b:Int)(r:Rec):Bool:=decide (r.kind=7/\r.to.getD 0 0=a/\r.to.getD 1 0=b)
def firstP(l:List Rec)(a b:Int):Option Int:=(l.findIdx? (isP a b)).map Int.ofNat
theorem x3P l r a b:firstP (l++[r]) a b=(firstP l a b).or (if isP a b r then some (l.length:Int)else Option.none):=by
 unfold firstP;rw[List.findIdx?_append]
 cases h:l.findIdx? (isP a b)with
 | some n=>simp
 | none=>grind
theorem x3b{l r}(h:r.kind≠7):firstP (l++[r])=firstP l:=by
 funext a b;rw[x3P,show isP a b r=false by unfold isP;exact d0f (fun q=>h q.1)];simp
theorem y0u{l r}(G:(firstP l (r.to.getD 0 0) (r.to.getD 1 0)).isSome=true):firstP (l++[r])=firstP l:=by
 funext a b;rw[x3P];by_cases h:isP a b r=true
 ·obtain⟨_,rfl,rfl⟩:=o0d h;obtain⟨n,A⟩:=Option.isSome_iff_exists.1 G;rw[A];rfl
 ·rw[if_neg h];simp
theorem y5p{l r}(o:r.kind=7)(G:firstP l (r.to.getD 0 0) (r.to.getD 1 0)=Option.none):firstP (l++[r])=setP (firstP l) (r.to.getD 0 0) (r.to.getD 1 0) (l.length:Int):=by
 funext a b;rw[x3P];unfold setP;by_cases h:a=r.to.getD 0 0/\b=r.to.getD 1 0
 ·obtain⟨rfl,rfl⟩:=h;rw[G,show isP (r.to.getD 0 0) (r.to.getD 1 0) r=true from d0t ⟨o,rfl,rfl⟩];simp
 ·rw[if_neg h,show isP a b r=false from d0f (fun q=>h ⟨q.2.1.symm,q.2.2.symm⟩)];simp
theorem y8h{l i}(hi:i<l.length)(o:(l.getD i none).kind=7):((firstP l ((l.getD i none).to.getD 0 0) ((l.getD i none).to.getD 1 0)).getD 0<(i:Int))↔((l.take i).any fun k=>decide (k.kind=7/\k.to.getD 0 0=(l.getD i none).to.getD 0 0/\k.to.getD 1 0=(l.getD i none).to.getD 1 0))=true:=by
 have D:l.getD i none=l[i]:=getD_at hi
 have L:isP ((l.getD i none).to.getD 0 0) ((l.getD i none).to.getD 1 0) l[i]=true:=by
  rw[D]at o ⊢;exact d0t ⟨o,rfl,rfl⟩
 generalize(l.getD i none).to.getD 0 0=a,(l.getD i none).to.getD 1 0=b at *;have A:((l.take i).any fun k=>decide (k.kind=7/\k.to.getD 0 0=a/\k.to.getD 1 0=b))=(l.take i).any (isP a b):=rfl;rw[A];unfold firstP
 cases hf:l.findIdx? (isP a b)with
 | none=>grind
 | some n =>
  obtain⟨G,Q,Z⟩:=List.findIdx?_eq_some_iff_getElem.1 hf;simp only[Option.map_some,Option.getD_some,List.any_eq_true];constructor
  ·intro h;have H:n<i:=(by grind);exact⟨l[n],List.mem_take_iff_getElem.2 ⟨n,f6J,rfl⟩,Q⟩
  ·rintro⟨x,J,C⟩;obtain⟨j,F,rfl⟩:=List.mem_take_iff_getElem.1 J;have B:n<=j:=(by grind);show(Int.ofNat n)<(i:Int);have:(Int.ofNat n)=(n:Int):=rfl;omega
end Cn
open Go.ChangeMaps (setBlock)
structure NI(w0 W:World)(c:Int->Int->Option Int)(cv ov:Value)(cxs oxs:List Sp):Prop where
 hr:W.heap[w0.heap.size]?=some (.cells #[.slice none 0 0,.slice none 0 0,.map none] 125 (0,0))
 hm:PAt W (w0.heap.size+1) c
 hx:W.heap[w0.heap.size+2]?=some (.cells #[cv,ov,.map (some (w0.heap.size+1))] 125 (0,0))
 hc:Rsh w0 W cv cxs
 ho:Rsh w0 W ov oxs
 ap:∀g,cv.ownBlock=some g->ov.ownBlock≠some g
 bel:Below w0.heap.size w0 W
theorem x0B{W:World}{g o}(h:W.heap[g]?=some o):g<W.heap.size:=by grind
theorem Rsh.keep{w0 W W' v}{xs:List Sp}(h:Rsh w0 W v xs)(G:∀g,v.ownBlock=some g->W'.heap[g]?=W.heap[g]?):Rsh w0 W' v xs:=⟨x0x h.1 G,h.2⟩
theorem NI.below{w0 W W'}{c:Int->Int->Option Int}{cv ov}{U B:List Sp}(h:NI w0 W c cv ov U B)(Y:Bw W W'):NI w0 W' c cv ov U B:=by
 obtain⟨A,D,s,m⟩:=h.hm
 exact⟨by rw[Y.block _ (x0B h.hr)];exact h.hr,⟨A,D,by rw[Y.block _ (x0B s)];exact s,m⟩,by rw[Y.block _ (x0B h.hx)];exact h.hx,
  h.hc.keep fun g C=>Y.block g (h.hc.1.lt g C).2,h.ho.keep fun g C=>Y.block g (h.ho.1.lt g C).2,h.ap,x0b h.bel Y⟩
theorem z6K{w0 W v}{xs:List Sp}(h:Rsh w0 W v xs){g}(C:v.ownBlock=some g):∃A,W.heap[g]?=some (.cells A 67 (0,0)):=by
 rcases h.1.2 with⟨rfl,_⟩|⟨k,B,A,rfl,_,a,_⟩
 ·cases C
 ·simp[Value.ownBlock]at C;subst C;exact⟨A,a⟩
theorem NI.far{w0 W}{c:Int->Int->Option Int}{cv ov v}{U B xs:List Sp}(h:NI w0 W c cv ov U B)(N:Rsh w0 W v xs):∀g,v.ownBlock=some g->g≠w0.heap.size/\g≠w0.heap.size+1/\g≠w0.heap.size+2:=by
 intro g C;obtain⟨D,d⟩:=z6K N C;refine⟨fun e=>?_,fun e=>?_,fun e=>?_⟩
 ·rw[e,h.hr]at d;simp at d
 ·obtain⟨A,F,s,_⟩:=h.hm;rw[e,s]at d;simp at d
 ·rw[e,h.hx]at d;simp at d
theorem NI.classes{w0 W w1}{c:Int->Int->Option Int}{cv ov v'}{U H:List Sp}{o}{x:Sp}(h:NI w0 W c cv ov U H)(J:Sk .i32 w0 (sval x) x.1.to/\RecFit x.1)
  (R:w1.ownsRow w0.heap.size 67 8 v' (U.length+1) (U.flatMap encR++encR x)) (C:(W.alloc o).grownBy w1 cv.ownBlock) (N:v'.ownBlock=cv.ownBlock\/v'.ownBlock=some (W.heap.size+1)) :
  w1.heap[w0.heap.size+2]?=some (.cells #[cv,ov,.map (some (w0.heap.size+1))] 125 (0,0))/\NI w0 (w1.setCell ⟨w0.heap.size+2,0,none⟩ v') c v' ov (U++[x]) H:=by
 have L:∀g,g<W.heap.size->(W.alloc o).heap[g]?=W.heap[g]?:=fun g C=>((Below.refl W.heap.size W).alloc (l0r _) _).block g C
 have B:∀g,g<W.heap.size->cv.ownBlock≠some g->w1.heap[g]?=W.heap[g]?:=fun g Z D=>by
  rw[C.block g P8P (fun e=>D e.symm),L g Z]
 have d:=h.far h.hc;have F:w1.heap[w0.heap.size+2]?=some (.cells #[cv,ov,.map (some (w0.heap.size+1))] 125 (0,0)):=M2J
 have Y:Rsh w0 w1 v' (U++[x]):=⟨s4P,fun y hy=>by
  rcases List.mem_append.1 hy with hy|hy
  ·exact h.hc.2 y hy
  ·simp only[List.mem_singleton]at hy
   subst hy;exact J⟩
 have hold:∀g,v'.ownBlock=some g->g≠w0.heap.size+2/\ov.ownBlock≠some g:=fun g Q=>by
  rcases N with e|e
  ·rw[e]at Q;exact⟨(d g Q).2.2,h.ap g Q⟩
  ·rw[e]at Q;simp at Q;have i:=x0B h.hx;refine⟨f6J,fun f=>?_⟩;have:=(h.ho.1.lt g f).2;omega
 obtain⟨A,I,s,m⟩:=h.hm;refine⟨F,⟨?_,⟨A,I,?_,m⟩,?_,?_,?_,fun g Q=>(hold g Q).2,?_⟩⟩
 ·exact e7q
 ·exact E8o
 ·rw[x0f F];rfl
 ·exact Y.keep fun g Q=>by rw[x0g _ (hold g Q).1]
 ·refine h.ho.keep fun g Q=>?_;rw[x0g _ (h.far h.ho g Q).2.2,B g (h.ho.1.lt g Q).2 (fun e=>h.ap g e Q)]
 ·have b1:Bw w0 w1:=(h.bel.alloc h.bel.size o).grown C (by have:=h.bel.size;exact P8P) (fun k G=>(h.hc.1.lt k G).1);exact x0d b1 f6J v'
theorem NI.opens{w0 W w1}{c:Int->Int->Option Int}{cv ov v'}{U H:List Sp}{o}{x:Sp}(h:NI w0 W c cv ov U H)(J:Sk .i32 w0 (sval x) x.1.to/\RecFit x.1)
  (R:w1.ownsRow w0.heap.size 67 8 v' (H.length+1) (H.flatMap encR++encR x)) (C:(W.alloc o).grownBy w1 ov.ownBlock) (N:v'.ownBlock=ov.ownBlock\/v'.ownBlock=some (W.heap.size+1)) :
  w1.heap[w0.heap.size+2]?=some (.cells #[cv,ov,.map (some (w0.heap.size+1))] 125 (0,0))/\NI w0 (w1.setCell ⟨w0.heap.size+2,1,none⟩ v') c cv v' U (H++[x]):=by
 have L:∀g,g<W.heap.size->(W.alloc o).heap[g]?=W.heap[g]?:=fun g C=>((Below.refl W.heap.size W).alloc (l0r _) _).block g C
 have B:∀g,g<W.heap.size->ov.ownBlock≠some g->w1.heap[g]?=W.heap[g]?:=fun g Z D=>by
  rw[C.block g P8P (fun e=>D e.symm),L g Z]
 have d:=h.far h.ho;have F:w1.heap[w0.heap.size+2]?=some (.cells #[cv,ov,.map (some (w0.heap.size+1))] 125 (0,0)):=M2J
 have Y:Rsh w0 w1 v' (H++[x]):=⟨s4P,fun y hy=>by
  rcases List.mem_append.1 hy with hy|hy
  ·exact h.ho.2 y hy
  ·simp only[List.mem_singleton]at hy
   subst hy;exact J⟩
 have hold:∀g,v'.ownBlock=some g->g≠w0.heap.size+2/\cv.ownBlock≠some g:=fun g Q=>by
  rcases N with e|e
  ·rw[e]at Q;exact⟨(d g Q).2.2,fun f=>h.ap g f Q⟩
  ·rw[e]at Q;simp at Q;have i:=x0B h.hx;refine⟨f6J,fun f=>?_⟩;have:=(h.hc.1.lt g f).2;omega
 obtain⟨A,I,s,m⟩:=h.hm;refine⟨F,⟨?_,⟨A,I,?_,m⟩,?_,?_,?_,fun g Z D=>(hold g D).2 Z,?_⟩⟩
 ·exact e7q
 ·exact E8o
 ·rw[x0f F];rfl
 ·refine h.hc.keep fun g Q=>?_;rw[x0g _ (h.far h.hc g Q).2.2,B g (h.hc.1.lt g Q).2 (fun e=>h.ap g Q e)]
 ·exact Y.keep fun g Q=>by rw[x0g _ (hold g Q).1]
 ·have b1:Bw w0 w1:=(h.bel.alloc h.bel.size o).grown C (by have:=h.bel.size;exact P8P) (fun k G=>(h.ho.1.lt k G).1);exact x0d b1 f6J v'
theorem NI.upd{w0 W}{c c':Int->Int->Option Int}{cv ov}{U F:List Sp}{A:Array MapEntry}{cl}(h:NI w0 W c cv ov U F)(y:PObj A cl c'):NI w0 (setBlock W (w0.heap.size+1) (.map A cl)) c' cv ov U F:=by
 obtain⟨D,B,s,_⟩:=h.hm;have H:=x0B s;refine⟨by rw[x2e _ _ f6J];exact h.hr,⟨A,cl,y2W _ _ _ H,y⟩,by rw[x2e _ _ f6J];exact h.hx,?_,?_,h.ap,?_⟩
 ·exact h.hc.keep fun g C=>x2e _ _ (h.far h.hc g C).2.1
 ·exact h.ho.keep fun g C=>x2e _ _ (h.far h.ho g C).2.1
 ·exact h.bel.trans (x4H _ W _ _ f6J)
namespace Cn
theorem y8c{k}(h:fam k=2):k=6:=by
 revert h;exact r2C
theorem fam_three'{k}(h:fam k=3):k=7\/k=8:=by
 revert h;exact r2C
def y6I(a b:Rec):Prop:=right a=0/\right b=0/\clash a b=false
theorem x3J{f}(X:f=2\/f=3){l cs}{p:Rec->Bool}(S:(check6 l).2=0)(L:∀r,p r=true↔fam r.kind=f)(N:cs.Perm (l.filter p))(U:cs.Pairwise fun a b=>a.lo<=b.lo):x1y f cs/\∀r,r∈cs↔r∈l/\fam r.kind=f:=by
 obtain⟨_,u,I⟩:=x0m.1 S;have A:∀r,r∈cs↔r∈l/\fam r.kind=f:=fun r=>(by rw[N.mem_iff,List.mem_filter,L]);have Z:l.Pairwise y6I:=I.imp_of_mem fun{a b} ha hb h=>⟨u a ha,u b hb,h⟩;have D:(l.filter p).Pairwise y6I:=Z.filter p;have R:cs.Pairwise y6I:=(N.pairwise_iff (fun{x y} ⟨a,b,c⟩=>⟨b,a,z1D a b c⟩)).2 D;exact⟨y5S X (fun r q=>⟨u r ((A r).1 q).1,((A r).1 q).2⟩) (R.imp fun⟨_,_,c⟩=>c) U,A⟩
end Cn
