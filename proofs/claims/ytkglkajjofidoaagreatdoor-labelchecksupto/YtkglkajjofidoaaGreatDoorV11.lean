/- CcL7 CcM7 CcN7 Um9 CcO7 CcQ7 -/
import Derived.Test.YtkglkajjofidoaaGreatDoorV12
import Derived.Shelf.SlSortCmp.WholeK
import Derived.Test.YtkglkajjofidoaaGreatDoorV15
set_option maxHeartbeats 8000000
set_option maxRecDepth 8000
namespace Go.Proofs.YtkglkajjofidoaaGreatDoor
open Go.Proofs.Tryz
open Go.RowKit
def Cn.wpair (l:List Rec) (c a b:Int):Bool:=decide (Cn.cls l c≠0) || decide (Cn.cls l a≠0) || decide (Cn.opn l b≠[]) || (decide (Cn.opn l a≠[]) && (Cn.prim l a).isNone) || decide (b<128) || decide (a=46)
theorem Cn.pair_w (l:List Rec) (i:Nat) (r:Rec):Cn.pair l i r=(!(Cn.wpair l r.lo (r.to.getD 0 0) (r.to.getD 1 0)) && !((l.take i).any fun k=>decide (k.kind=7/\k.to.getD 0 0=r.to.getD 0 0/\k.to.getD 1 0=r.to.getD 1 0))):=rfl
theorem y4F {zs:List Int}:decide (zs≠[])=decide (0<zs.length):=by
 cases zs <;> simp
theorem OpB.sk {w0 w w1:World} {v:Value} {zs:List Int} (h:Sk .i32 w0 v zs\/Ok .i32 21 w1 w.heap.size v zs) (hw:Bw w0 w) (hb:Bw w w1):Sk .i32 w1 v zs:=by
 rcases h with h | h
 ·exact (h.below hw).below hb
 ·exact h.sk
theorem y5N (l cs os:List Rec) (cv ov:Value) (mr:Nat) (c a b:Int) (w:World) (hg:Glob w) (h:Idx l w cv ov cs os) (hc:Rune c) (ha:Rune a) (bi:Rune b):Calls prog 115 #[xV cv ov (.map (some mr)),.int .i32 c,.int .i32 a,.int .i32 b] w (x0d w (Cn.wpair l c a b)):=by
 obtain ⟨bh,aX,rfl,_,_⟩:=h.rc.shape;obtain ⟨bn,aY,rfl,_,_⟩:=h.ro.shape;have hb:Bw w (w.alloc (.cells #[.slice bh cs.length aX,.slice bn os.length aY,.map (some mr)] 118)):=(b0r).alloc (l0r _) _;have aj:(w.alloc (.cells #[.slice bh cs.length aX,.slice bn os.length aY,.map (some mr)] 118)).heap.size=w.heap.size+1:=by simp
 have HX:Hid (∀ W,Below (w.heap.size+1) (w.alloc (.cells #[.slice bh cs.length aX,.slice bn os.length aY,.map (some mr)] 118)) W->W.cell? ⟨w.heap.size,0,none⟩=some (.slice bh cs.length aX)/\W.cell? ⟨w.heap.size,1,none⟩=some (.slice bn os.length aY)/\W.cell? ⟨w.heap.size,2,none⟩=some (.map (some mr))):=fun W hW=>by
  refine ⟨?_,?_,?_⟩
  all_goals
   rw [hW.cell (by show w.heap.size<_; omega)];simp
 have HW:Hid (∀ W,Below (w.heap.size+1) (w.alloc (.cells #[.slice bh cs.length aX,.slice bn os.length aY,.map (some mr)] 118)) W->Bw w W):=fun W hW=>hb.trans (hW.mono (by omega));have KC:=O (fun W x (hW:Bw w W) (hx:Rune x)=>x6r l cs os _ _ mr x W (hg.on hW) (h.below hW) hx);have KO:=O (fun W x (hW:Bw w W) (hx:Rune x)=>x8P l cs os _ _ mr x w W hg h hW hx);have KP:=O (fun W x (hW:Bw w W) (hx:Rune x)=>y5S l cs os _ _ mr x W (hg.on hW) (h.below hW) hx);have K1:=O (V KC _ c hb hc);have aR:=O (fun W hW=>V KC W a hW ha);have aT:=O (fun W hW=>V KO W b hW bi);have aW:=O (fun W hW=>V KO W a hW ha);have a5:=O (fun W hW=>V KP W a hW ha)
 have h0:Cn.wpair l c a b=(decide (Cn.cls l c≠0) || decide (Cn.cls l a≠0) || decide (0<(Cn.opn l b).length) || (decide (0<(Cn.opn l a).length) && !(Cn.prim l a).isSome) || decide (b<128) || decide (a=46)):=by
  unfold Cn.wpair;rw [y4F,y4F];cases Cn.prim l a <;> rfl
 rw [h0];have aN:Below (w.heap.size+1) (w.alloc (.cells #[.slice bh cs.length aX,.slice bn os.length aY,.map (some mr)] 118)) (w.alloc (.cells #[.slice bh cs.length aX,.slice bn os.length aY,.map (some mr)] 118)):=b0r;clear KC KO KP h hg hc ha bi h0 hb;generalize Cn.cls l c=n1 at *;generalize Cn.cls l a=n2 at *;generalize Cn.opn l b=z3 at *;generalize Cn.opn l a=z4 at *;generalize (Cn.prim l a).isSome=p5 at *;unfold xV at *;by_cases q1:n1≠0
 ·rw [d0t q1];simp only [Bool.true_or];have d1:(n1 != 0)=true:=(by simp [q1]);clear q1;go_enter func115,ntmps115;go_wp2_with fail;refine (V K1).mono ?_;rintro e w1 ⟨rfl,ag⟩;have ab:Below (w.heap.size+1) _ w1:=aN.trans (ag.mono (by have:=aN.size; rw [aj] at this; omega));clear K1 ag;obtain ⟨au,av,aw⟩:=V HX w1 ab;have an:∀ z,x0d w z (.returned (.bool z)) w1:=fun z=>⟨rfl,V HW _ ab⟩;have HF:=an true;clear HX HW aR aT aW a5 aN an  ab;go_wp2;go_ret;exact HF
 ·obtain rfl:n1=0:=(by omega);rw [d0f q1];simp only [Bool.false_or];clear q1;by_cases q2:n2≠0
  ·rw [d0t q2];simp only [Bool.true_or];have d2:(n2 != 0)=true:=(by simp [q2]);clear q2;go_enter func115,ntmps115;go_wp2_with fail;refine (V K1).mono ?_;rintro e w1 ⟨rfl,ag⟩;have ab:Below (w.heap.size+1) _ w1:=aN.trans (ag.mono (by have:=aN.size; rw [aj] at this; omega));clear K1 ag;obtain ⟨au,av,aw⟩:=V HX w1 ab;have an:∀ z,x0d w z (.returned (.bool z)) w1:=fun z=>⟨rfl,V HW _ ab⟩;have K2:=O (V aR w1 (V HW _ ab));go_wp2_with fail;refine (V K2).mono ?_;rintro e w2 ⟨rfl,ai⟩;have aa:Below (w.heap.size+1) _ w2:=ab.trans (ai.mono (by have:=ab.size; rw [aj] at this; omega));clear K2 ai;obtain ⟨az,aA,aB⟩:=V HX w2 aa;have ar:∀ z,x0d w z (.returned (.bool z)) w2:=fun z=>⟨rfl,V HW _ aa⟩;have HF:=ar true;clear HX HW aR aT aW a5 aN ar an au av aw ab aa;go_wp2;go_ret;exact HF
  ·obtain rfl:n2=0:=(by omega);rw [d0f q2];simp only [Bool.false_or];clear q2;by_cases q3:0<z3.length
   ·rw [d0t q3];simp only [Bool.true_or];have d3:(0:Int)<(z3.length:Int):=(by omega);go_enter func115,ntmps115;go_wp2_with fail;refine (V K1).mono ?_;rintro e w1 ⟨rfl,ag⟩;have ab:Below (w.heap.size+1) _ w1:=aN.trans (ag.mono (by have:=aN.size; rw [aj] at this; omega));clear K1 ag;obtain ⟨au,av,aw⟩:=V HX w1 ab;have an:∀ z,x0d w z (.returned (.bool z)) w1:=fun z=>⟨rfl,V HW _ ab⟩;have K2:=O (V aR w1 (V HW _ ab));go_wp2_with fail;refine (V K2).mono ?_;rintro e w2 ⟨rfl,ai⟩;have aa:Below (w.heap.size+1) _ w2:=ab.trans (ai.mono (by have:=ab.size; rw [aj] at this; omega));clear K2 ai;obtain ⟨az,aA,aB⟩:=V HX w2 aa;have ar:∀ z,x0d w z (.returned (.bool z)) w2:=fun z=>⟨rfl,V HW _ aa⟩;have K3:=O (V aT w2 (V HW _ aa));go_wp2_with fail;refine (V K3).mono ?_;rintro e w3 ⟨aZ,rfl,ak,af⟩;have ad:Below (w.heap.size+1) _ w3:=aa.trans (af.mono (by have:=aa.size; rw [aj] at this; omega));obtain ⟨aP,aM,rfl,_,_⟩:=(OpB.sk ak (V HW _ aa) af).shape;clear ak;clear K3 af;obtain ⟨aD,aF,aG⟩:=V HX w3 ad;have ax:∀ z,x0d w z (.returned (.bool z)) w3:=fun z=>⟨rfl,V HW _ ad⟩;have HF:=ax true;clear HX HW aR aT aW a5 aN ax an au av aw ar az aA aB ab aa ad;go_wp2;go_ret;exact HF
   ·obtain rfl:z3=[]:=List.eq_nil_of_length_eq_zero (by omega);rw [d0f q3];simp only [Bool.false_or];clear q3;by_cases q4:0<z4.length
    ·rw [d0t q4];simp only [Bool.true_and];have d4:(0:Int)<(z4.length:Int):=(by omega);cases p5
     ·simp only [Bool.not_false,Bool.true_or];go_enter func115,ntmps115;go_wp2_with fail;refine (V K1).mono ?_;rintro e w1 ⟨rfl,ag⟩;have ab:Below (w.heap.size+1) _ w1:=aN.trans (ag.mono (by have:=aN.size; rw [aj] at this; omega));clear K1 ag;obtain ⟨au,av,aw⟩:=V HX w1 ab;have an:∀ z,x0d w z (.returned (.bool z)) w1:=fun z=>⟨rfl,V HW _ ab⟩;have K2:=O (V aR w1 (V HW _ ab));go_wp2_with fail;refine (V K2).mono ?_;rintro e w2 ⟨rfl,ai⟩;have aa:Below (w.heap.size+1) _ w2:=ab.trans (ai.mono (by have:=ab.size; rw [aj] at this; omega));clear K2 ai;obtain ⟨az,aA,aB⟩:=V HX w2 aa;have ar:∀ z,x0d w z (.returned (.bool z)) w2:=fun z=>⟨rfl,V HW _ aa⟩;have K3:=O (V aT w2 (V HW _ aa));go_wp2_with fail;refine (V K3).mono ?_;rintro e w3 ⟨aZ,rfl,ak,af⟩;have ad:Below (w.heap.size+1) _ w3:=aa.trans (af.mono (by have:=aa.size; rw [aj] at this; omega));obtain ⟨aP,aM,rfl,_,_⟩:=(OpB.sk ak (V HW _ aa) af).shape;clear ak;clear K3 af;obtain ⟨aD,aF,aG⟩:=V HX w3 ad;have ax:∀ z,x0d w z (.returned (.bool z)) w3:=fun z=>⟨rfl,V HW _ ad⟩;have K4:=O (V aW w3 (V HW _ ad));go_wp2_with fail;refine (V K4).mono ?_;rintro e w4 ⟨a7,rfl,aq,ah⟩;have ae:Below (w.heap.size+1) _ w4:=ad.trans (ah.mono (by have:=ad.size; rw [aj] at this; omega));obtain ⟨aQ,aO,rfl,_,_⟩:=(OpB.sk aq (V HW _ ad) ah).shape;clear aq;clear K4 ah;obtain ⟨aJ,aK,aL⟩:=V HX w4 ae;have ay:∀ z,x0d w z (.returned (.bool z)) w4:=fun z=>⟨rfl,V HW _ ae⟩;have K5:=O (V a5 w4 (V HW _ ae));go_wp2_with fail;refine (V K5).mono ?_;rintro e w5 ⟨rfl,aI⟩;have aC:Below (w.heap.size+1) _ w5:=ae.trans (aI.mono (by have:=ae.size; rw [aj] at this; omega));clear K5 aI;obtain ⟨bb,bd,be⟩:=V HX w5 aC;have aH:∀ z,x0d w z (.returned (.bool z)) w5:=fun z=>⟨rfl,V HW _ aC⟩;have HF:=aH true;clear HX HW aR aT aW a5 aN aH an au av aw ar az aA aB ax aD aF aG ay aJ aK aL ab aa ad ae aC;go_wp2;go_ret;exact HF
     ·simp only [Bool.not_true,Bool.false_or];by_cases q6:b<128
      ·rw [d0t q6,Bool.true_or];go_enter func115,ntmps115;go_wp2_with fail;refine (V K1).mono ?_;rintro e w1 ⟨rfl,ag⟩;have ab:Below (w.heap.size+1) _ w1:=aN.trans (ag.mono (by have:=aN.size; rw [aj] at this; omega));clear K1 ag;obtain ⟨au,av,aw⟩:=V HX w1 ab;have an:∀ z,x0d w z (.returned (.bool z)) w1:=fun z=>⟨rfl,V HW _ ab⟩;have K2:=O (V aR w1 (V HW _ ab));go_wp2_with fail;refine (V K2).mono ?_;rintro e w2 ⟨rfl,ai⟩;have aa:Below (w.heap.size+1) _ w2:=ab.trans (ai.mono (by have:=ab.size; rw [aj] at this; omega));clear K2 ai;obtain ⟨az,aA,aB⟩:=V HX w2 aa;have ar:∀ z,x0d w z (.returned (.bool z)) w2:=fun z=>⟨rfl,V HW _ aa⟩;have K3:=O (V aT w2 (V HW _ aa));go_wp2_with fail;refine (V K3).mono ?_;rintro e w3 ⟨aZ,rfl,ak,af⟩;have ad:Below (w.heap.size+1) _ w3:=aa.trans (af.mono (by have:=aa.size; rw [aj] at this; omega));obtain ⟨aP,aM,rfl,_,_⟩:=(OpB.sk ak (V HW _ aa) af).shape;clear ak;clear K3 af;obtain ⟨aD,aF,aG⟩:=V HX w3 ad;have ax:∀ z,x0d w z (.returned (.bool z)) w3:=fun z=>⟨rfl,V HW _ ad⟩;have K4:=O (V aW w3 (V HW _ ad));go_wp2_with fail;refine (V K4).mono ?_;rintro e w4 ⟨a7,rfl,aq,ah⟩;have ae:Below (w.heap.size+1) _ w4:=ad.trans (ah.mono (by have:=ad.size; rw [aj] at this; omega));obtain ⟨aQ,aO,rfl,_,_⟩:=(OpB.sk aq (V HW _ ad) ah).shape;clear aq;clear K4 ah;obtain ⟨aJ,aK,aL⟩:=V HX w4 ae;have ay:∀ z,x0d w z (.returned (.bool z)) w4:=fun z=>⟨rfl,V HW _ ae⟩;have K5:=O (V a5 w4 (V HW _ ae));go_wp2_with fail;refine (V K5).mono ?_;rintro e w5 ⟨rfl,aI⟩;have aC:Below (w.heap.size+1) _ w5:=ae.trans (aI.mono (by have:=ae.size; rw [aj] at this; omega));clear K5 aI;obtain ⟨bb,bd,be⟩:=V HX w5 aC;have aH:∀ z,x0d w z (.returned (.bool z)) w5:=fun z=>⟨rfl,V HW _ aC⟩;have HF:=aH true;clear HX HW aR aT aW a5 aN aH an au av aw ar az aA aB ax aD aF aG ay aJ aK aL ab aa ad ae aC;go_wp2;go_ret;exact HF
      ·have d6:decide (b<128)=false:=d0f q6;rw [d6,Bool.false_or];by_cases q7:a=46
       ·rw [d0t q7];subst q7;go_enter func115,ntmps115;go_wp2_with fail;refine (V K1).mono ?_;rintro e w1 ⟨rfl,ag⟩;have ab:Below (w.heap.size+1) _ w1:=aN.trans (ag.mono (by have:=aN.size; rw [aj] at this; omega));clear K1 ag;obtain ⟨au,av,aw⟩:=V HX w1 ab;have an:∀ z,x0d w z (.returned (.bool z)) w1:=fun z=>⟨rfl,V HW _ ab⟩;have K2:=O (V aR w1 (V HW _ ab));go_wp2_with fail;refine (V K2).mono ?_;rintro e w2 ⟨rfl,ai⟩;have aa:Below (w.heap.size+1) _ w2:=ab.trans (ai.mono (by have:=ab.size; rw [aj] at this; omega));clear K2 ai;obtain ⟨az,aA,aB⟩:=V HX w2 aa;have ar:∀ z,x0d w z (.returned (.bool z)) w2:=fun z=>⟨rfl,V HW _ aa⟩;have K3:=O (V aT w2 (V HW _ aa));go_wp2_with fail;refine (V K3).mono ?_;rintro e w3 ⟨aZ,rfl,ak,af⟩;have ad:Below (w.heap.size+1) _ w3:=aa.trans (af.mono (by have:=aa.size; rw [aj] at this; omega));obtain ⟨aP,aM,rfl,_,_⟩:=(OpB.sk ak (V HW _ aa) af).shape;clear ak;clear K3 af;obtain ⟨aD,aF,aG⟩:=V HX w3 ad;have ax:∀ z,x0d w z (.returned (.bool z)) w3:=fun z=>⟨rfl,V HW _ ad⟩;have K4:=O (V aW w3 (V HW _ ad));go_wp2_with fail;refine (V K4).mono ?_;rintro e w4 ⟨a7,rfl,aq,ah⟩;have ae:Below (w.heap.size+1) _ w4:=ad.trans (ah.mono (by have:=ad.size; rw [aj] at this; omega));obtain ⟨aQ,aO,rfl,_,_⟩:=(OpB.sk aq (V HW _ ad) ah).shape;clear aq;clear K4 ah;obtain ⟨aJ,aK,aL⟩:=V HX w4 ae;have ay:∀ z,x0d w z (.returned (.bool z)) w4:=fun z=>⟨rfl,V HW _ ae⟩;have K5:=O (V a5 w4 (V HW _ ae));go_wp2_with fail;refine (V K5).mono ?_;rintro e w5 ⟨rfl,aI⟩;have aC:Below (w.heap.size+1) _ w5:=ae.trans (aI.mono (by have:=ae.size; rw [aj] at this; omega));clear K5 aI;obtain ⟨bb,bd,be⟩:=V HX w5 aC;have aH:∀ z,x0d w z (.returned (.bool z)) w5:=fun z=>⟨rfl,V HW _ aC⟩;have HF:=aH true;clear HX HW aR aT aW a5 aN aH an au av aw ar az aA aB ax aD aF aG ay aJ aK aL ab aa ad ae aC;go_wp2;go_ret;exact HF
       ·rw [d0f q7];have d7:(a==46)=false:=b0f q7;clear q7;go_enter func115,ntmps115;go_wp2_with fail;refine (V K1).mono ?_;rintro e w1 ⟨rfl,ag⟩;have ab:Below (w.heap.size+1) _ w1:=aN.trans (ag.mono (by have:=aN.size; rw [aj] at this; omega));clear K1 ag;obtain ⟨au,av,aw⟩:=V HX w1 ab;have an:∀ z,x0d w z (.returned (.bool z)) w1:=fun z=>⟨rfl,V HW _ ab⟩;have K2:=O (V aR w1 (V HW _ ab));go_wp2_with fail;refine (V K2).mono ?_;rintro e w2 ⟨rfl,ai⟩;have aa:Below (w.heap.size+1) _ w2:=ab.trans (ai.mono (by have:=ab.size; rw [aj] at this; omega));clear K2 ai;obtain ⟨az,aA,aB⟩:=V HX w2 aa;have ar:∀ z,x0d w z (.returned (.bool z)) w2:=fun z=>⟨rfl,V HW _ aa⟩;have K3:=O (V aT w2 (V HW _ aa));go_wp2_with fail;refine (V K3).mono ?_;rintro e w3 ⟨aZ,rfl,ak,af⟩;have ad:Below (w.heap.size+1) _ w3:=aa.trans (af.mono (by have:=aa.size; rw [aj] at this; omega));obtain ⟨aP,aM,rfl,_,_⟩:=(OpB.sk ak (V HW _ aa) af).shape;clear ak;clear K3 af;obtain ⟨aD,aF,aG⟩:=V HX w3 ad;have ax:∀ z,x0d w z (.returned (.bool z)) w3:=fun z=>⟨rfl,V HW _ ad⟩;have K4:=O (V aW w3 (V HW _ ad));go_wp2_with fail;refine (V K4).mono ?_;rintro e w4 ⟨a7,rfl,aq,ah⟩;have ae:Below (w.heap.size+1) _ w4:=ad.trans (ah.mono (by have:=ad.size; rw [aj] at this; omega));obtain ⟨aQ,aO,rfl,_,_⟩:=(OpB.sk aq (V HW _ ad) ah).shape;clear aq;clear K4 ah;obtain ⟨aJ,aK,aL⟩:=V HX w4 ae;have ay:∀ z,x0d w z (.returned (.bool z)) w4:=fun z=>⟨rfl,V HW _ ae⟩;have K5:=O (V a5 w4 (V HW _ ae));go_wp2_with fail;refine (V K5).mono ?_;rintro e w5 ⟨rfl,aI⟩;have aC:Below (w.heap.size+1) _ w5:=ae.trans (aI.mono (by have:=ae.size; rw [aj] at this; omega));clear K5 aI;obtain ⟨bb,bd,be⟩:=V HX w5 aC;have aH:∀ z,x0d w z (.returned (.bool z)) w5:=fun z=>⟨rfl,V HW _ aC⟩;have HF:=aH false;clear HX HW aR aT aW a5 aN aH an au av aw ar az aA aB ax aD aF aG ay aJ aK aL ab aa ad ae aC;go_wp2;go_ret;exact HF
    ·obtain rfl:z4=[]:=List.eq_nil_of_length_eq_zero (by omega);rw [d0f q4];simp only [Bool.false_and,Bool.false_or];clear q4;by_cases q6:b<128
     ·rw [d0t q6,Bool.true_or];go_enter func115,ntmps115;go_wp2_with fail;refine (V K1).mono ?_;rintro e w1 ⟨rfl,ag⟩;have ab:Below (w.heap.size+1) _ w1:=aN.trans (ag.mono (by have:=aN.size; rw [aj] at this; omega));clear K1 ag;obtain ⟨au,av,aw⟩:=V HX w1 ab;have an:∀ z,x0d w z (.returned (.bool z)) w1:=fun z=>⟨rfl,V HW _ ab⟩;have K2:=O (V aR w1 (V HW _ ab));go_wp2_with fail;refine (V K2).mono ?_;rintro e w2 ⟨rfl,ai⟩;have aa:Below (w.heap.size+1) _ w2:=ab.trans (ai.mono (by have:=ab.size; rw [aj] at this; omega));clear K2 ai;obtain ⟨az,aA,aB⟩:=V HX w2 aa;have ar:∀ z,x0d w z (.returned (.bool z)) w2:=fun z=>⟨rfl,V HW _ aa⟩;have K3:=O (V aT w2 (V HW _ aa));go_wp2_with fail;refine (V K3).mono ?_;rintro e w3 ⟨aZ,rfl,ak,af⟩;have ad:Below (w.heap.size+1) _ w3:=aa.trans (af.mono (by have:=aa.size; rw [aj] at this; omega));obtain ⟨aP,aM,rfl,_,_⟩:=(OpB.sk ak (V HW _ aa) af).shape;clear ak;clear K3 af;obtain ⟨aD,aF,aG⟩:=V HX w3 ad;have ax:∀ z,x0d w z (.returned (.bool z)) w3:=fun z=>⟨rfl,V HW _ ad⟩;have K4:=O (V aW w3 (V HW _ ad));go_wp2_with fail;refine (V K4).mono ?_;rintro e w4 ⟨a7,rfl,aq,ah⟩;have ae:Below (w.heap.size+1) _ w4:=ad.trans (ah.mono (by have:=ad.size; rw [aj] at this; omega));obtain ⟨aQ,aO,rfl,_,_⟩:=(OpB.sk aq (V HW _ ad) ah).shape;clear aq;clear K4 ah;obtain ⟨aJ,aK,aL⟩:=V HX w4 ae;have ay:∀ z,x0d w z (.returned (.bool z)) w4:=fun z=>⟨rfl,V HW _ ae⟩;have HF:=ay true;clear HX HW aR aT aW a5 aN ay an au av aw ar az aA aB ax aD aF aG ab aa ad ae;go_wp2;go_ret;exact HF
     ·have d6:decide (b<128)=false:=d0f q6;rw [d6,Bool.false_or];by_cases q7:a=46
      ·rw [d0t q7];subst q7;go_enter func115,ntmps115;go_wp2_with fail;refine (V K1).mono ?_;rintro e w1 ⟨rfl,ag⟩;have ab:Below (w.heap.size+1) _ w1:=aN.trans (ag.mono (by have:=aN.size; rw [aj] at this; omega));clear K1 ag;obtain ⟨au,av,aw⟩:=V HX w1 ab;have an:∀ z,x0d w z (.returned (.bool z)) w1:=fun z=>⟨rfl,V HW _ ab⟩;have K2:=O (V aR w1 (V HW _ ab));go_wp2_with fail;refine (V K2).mono ?_;rintro e w2 ⟨rfl,ai⟩;have aa:Below (w.heap.size+1) _ w2:=ab.trans (ai.mono (by have:=ab.size; rw [aj] at this; omega));clear K2 ai;obtain ⟨az,aA,aB⟩:=V HX w2 aa;have ar:∀ z,x0d w z (.returned (.bool z)) w2:=fun z=>⟨rfl,V HW _ aa⟩;have K3:=O (V aT w2 (V HW _ aa));go_wp2_with fail;refine (V K3).mono ?_;rintro e w3 ⟨aZ,rfl,ak,af⟩;have ad:Below (w.heap.size+1) _ w3:=aa.trans (af.mono (by have:=aa.size; rw [aj] at this; omega));obtain ⟨aP,aM,rfl,_,_⟩:=(OpB.sk ak (V HW _ aa) af).shape;clear ak;clear K3 af;obtain ⟨aD,aF,aG⟩:=V HX w3 ad;have ax:∀ z,x0d w z (.returned (.bool z)) w3:=fun z=>⟨rfl,V HW _ ad⟩;have K4:=O (V aW w3 (V HW _ ad));go_wp2_with fail;refine (V K4).mono ?_;rintro e w4 ⟨a7,rfl,aq,ah⟩;have ae:Below (w.heap.size+1) _ w4:=ad.trans (ah.mono (by have:=ad.size; rw [aj] at this; omega));obtain ⟨aQ,aO,rfl,_,_⟩:=(OpB.sk aq (V HW _ ad) ah).shape;clear aq;clear K4 ah;obtain ⟨aJ,aK,aL⟩:=V HX w4 ae;have ay:∀ z,x0d w z (.returned (.bool z)) w4:=fun z=>⟨rfl,V HW _ ae⟩;have HF:=ay true;clear HX HW aR aT aW a5 aN ay an au av aw ar az aA aB ax aD aF aG ab aa ad ae;go_wp2;go_ret;exact HF
      ·rw [d0f q7];have d7:(a==46)=false:=b0f q7;clear q7;go_enter func115,ntmps115;go_wp2_with fail;refine (V K1).mono ?_;rintro e w1 ⟨rfl,ag⟩;have ab:Below (w.heap.size+1) _ w1:=aN.trans (ag.mono (by have:=aN.size; rw [aj] at this; omega));clear K1 ag;obtain ⟨au,av,aw⟩:=V HX w1 ab;have an:∀ z,x0d w z (.returned (.bool z)) w1:=fun z=>⟨rfl,V HW _ ab⟩;have K2:=O (V aR w1 (V HW _ ab));go_wp2_with fail;refine (V K2).mono ?_;rintro e w2 ⟨rfl,ai⟩;have aa:Below (w.heap.size+1) _ w2:=ab.trans (ai.mono (by have:=ab.size; rw [aj] at this; omega));clear K2 ai;obtain ⟨az,aA,aB⟩:=V HX w2 aa;have ar:∀ z,x0d w z (.returned (.bool z)) w2:=fun z=>⟨rfl,V HW _ aa⟩;have K3:=O (V aT w2 (V HW _ aa));go_wp2_with fail;refine (V K3).mono ?_;rintro e w3 ⟨aZ,rfl,ak,af⟩;have ad:Below (w.heap.size+1) _ w3:=aa.trans (af.mono (by have:=aa.size; rw [aj] at this; omega));obtain ⟨aP,aM,rfl,_,_⟩:=(OpB.sk ak (V HW _ aa) af).shape;clear ak;clear K3 af;obtain ⟨aD,aF,aG⟩:=V HX w3 ad;have ax:∀ z,x0d w z (.returned (.bool z)) w3:=fun z=>⟨rfl,V HW _ ad⟩;have K4:=O (V aW w3 (V HW _ ad));go_wp2_with fail;refine (V K4).mono ?_;rintro e w4 ⟨a7,rfl,aq,ah⟩;have ae:Below (w.heap.size+1) _ w4:=ad.trans (ah.mono (by have:=ad.size; rw [aj] at this; omega));obtain ⟨aQ,aO,rfl,_,_⟩:=(OpB.sk aq (V HW _ ad) ah).shape;clear aq;clear K4 ah;obtain ⟨aJ,aK,aL⟩:=V HX w4 ae;have ay:∀ z,x0d w z (.returned (.bool z)) w4:=fun z=>⟨rfl,V HW _ ae⟩;have HF:=ay false;clear HX HW aR aT aW a5 aN ay an au av aw ar az aA aB ax aD aF aG ab aa ad ae;go_wp2;go_ret;exact HF
open Go.RowKit Go.Sort Go.Shelf
abbrev Sp:=Rec × Option Addr × Nat × Nat
def sval (x:Sp):Value:=.slice x.2.1 x.2.2.1 x.2.2.2
def encR (x:Sp):List Value:=x0u (x.1,sval x)
theorem y0m (x:Sp):(encR x).length=8:=rfl
theorem x6A (x:Sp):∀ v∈encR x,v.oneCell'=true:=x5k x.1 rfl
def loOf (x y:Sp):Int:=Lib.compareInt x.1.lo y.1.lo
theorem ltLo (x y:Sp):ltOf loOf x y=decide (x.1.lo<y.1.lo):=by
 unfold ltOf loOf Lib.compareInt;by_cases h1:x.1.lo<y.1.lo
 ·simp [h1]
 ·by_cases h2:y.1.lo<x.1.lo <;> simp [h1,h2]
theorem swoLo:SWO (ltOf loOf):={
 irrefl:=fun x=>by rw [ltLo]; simp
 trans:=fun x y z h1 h2=>by rw [ltLo] at *; simp at *; omega
 ntrans:=fun x y z h1 h2=>by rw [ltLo] at *; simp at *; omega }
theorem y6n (x y:Sp) (W:World):Calls prog 111 #[.agg (encR x).toArray,.agg (encR y).toArray] W fun e w'=>e=.returned (.int .i64 (loOf x y))/\∃ q os',w'=grow (W.drewN q) os':=by
 have K:=O (fun W=>x2k x.1.lo y.1.lo W);have e:Lib.compareInt x.1.lo y.1.lo=loOf x y:=rfl;rw [e] at K;generalize loOf x y=z at *;obtain ⟨a,ao,al,ac⟩:=x;obtain ⟨b,bo,bl,bc⟩:=y;show Calls prog 111 #[.agg #[.int .i64 a.kind,.int .i64 a.lo,.int .i64 a.hi,.int .i64 a.n,.slice ao al ac,.string a.name,.string a.other,.float .f64 a.wt],.agg #[.int .i64 b.kind,.int .i64 b.lo,.int .i64 b.hi,.int .i64 b.n,.slice bo bl bc,.string b.name,.string b.other,.float .f64 b.wt]] W _;clear e;go_enter func111,ntmps111;go_wp2_with fail;refine (V K _).mono ?_;rintro e w1 ⟨rfl,rfl⟩;clear K;go_wp2;go_ret;exact ⟨rfl,0,_,by rw [alloc_eq_grow,alloc_eq_grow,grow_grow]; rfl⟩
def z0O (w0:World) (xs:List Sp):Prop:=∀ x∈xs,Sk .i32 w0 (sval x) x.1.to/\RecFit x.1
def Rsh (w0 w:World) (v:Value) (xs:List Sp):Prop:=w.ownsRow w0.heap.size 50 8 v xs.length (xs.flatMap encR)/\z0O w0 xs
def Rsx (w0 w:World) (v:Value) (xs:List Sp):Prop:=z0O w0 xs/\((xs=[]/\∃ ao cap,v=.slice ao 0 cap/\cap<=9223372036854775807) \/
 ∃ blk cap,v=.slice (some ⟨blk,0,none⟩) xs.length cap/\w0.heap.size<=blk/\blk<w.heap.size/\xs.length<=cap/\cap<=9223372036854775807/\∀ i j,i<xs.length->j<8->w.cell? ⟨blk,i * 8+j,none⟩=some ((encR (xs.getD i (Cn.none,none,0,0)))[j]!))
theorem x9m (xs:List Sp):xs.flatMap encR=rcells (xs.map fun x=>(x.1,sval x)):=by
 induction xs with
 | nil=>rfl
 | cons x xs ih=>rw [List.flatMap_cons,ih]; rfl
theorem x6E (xs:List Sp) (i j:Nat) (hi:i<xs.length) (hj:j<8):(xs.flatMap encR)[i * 8+j]?=some ((encR (xs.getD i (Cn.none,none,0,0)))[j]!):=by
 rw [x9m,x1j _ i j (by simpa using hi) hj];have e:(xs.map fun x=>(x.1,sval x)).getD i (Cn.none,undef)=((xs.getD i (Cn.none,none,0,0)).1,sval (xs.getD i (Cn.none,none,0,0))):=(by simp [List.getD,hi]);rw [e];show (encR (xs.getD i (Cn.none,none,0,0)))[j]?=_;have hl:=y0m (xs.getD i (Cn.none,none,0,0));rw [List.getElem?_eq_getElem (by rw [hl]; exact hj),getElem!_pos _ j (by rw [hl]; exact hj)]
theorem Rsx.keep {w0 w w':World} {v:Value} {xs:List Sp} (h:Rsx w0 w v xs) (hs:w.heap.size<=w'.heap.size) (hk:∀ g,v.ownBlock=some g->w'.heap[g]?=w.heap[g]?):Rsx w0 w' v xs:=by
 refine ⟨h.1,?_⟩;rcases h.2 with h2 | ⟨blk,cap,rfl,h1,h2,h3,h4,h5⟩
 ·exact .inl h2
 ·exact .inr ⟨blk,cap,rfl,h1,by omega,h3,h4,fun i j hi hj=>by rw [World.cell?_of_block (hk blk rfl)]; exact h5 i j hi hj⟩
theorem Rsx.rcs {w0 w:World} {v:Value} {xs:List Sp} (h:Rsx w0 w v xs) (hw:Bw w0 w) (hl:xs.length<=1000000000):Rcs w v (xs.map (·.1)):=by
 refine ⟨by simpa using hl,fun r hr=>?_,?_⟩
 ·obtain ⟨x,hx,rfl⟩:=List.mem_map.1 hr;exact (h.1 x hx).2
 ·rcases h.2 with ⟨rfl,ao,cap,rfl,hc⟩ | ⟨blk,cap,rfl,h1,h2,h3,h4,h5⟩
  ·exact .inl ⟨rfl,ao,cap,rfl,hc⟩
  ·refine .inr ⟨blk,0,cap,by simp,by simpa using h3,h4,fun i hi=>?_⟩;rw [List.length_map] at hi;have e:(xs.map (·.1)).getD i Cn.none=(xs.getD i (Cn.none,none,0,0)).1:=(by simp [List.getD,hi]);have hm:xs.getD i (Cn.none,none,0,0)∈xs:=(by simp [List.getD,hi]);rw [e,Nat.zero_add];exact ⟨h5 i 0 hi (by omega),h5 i 1 hi (by omega),h5 i 2 hi (by omega),h5 i 3 hi (by omega),⟨_,h5 i 4 hi (by omega),(h.1 _ hm).1.below hw⟩,h5 i 5 hi (by omega),h5 i 6 hi (by omega),h5 i 7 hi (by omega)⟩
theorem Rsh.rsx {w0 w:World} {v:Value} {xs:List Sp} (h:Rsh w0 w v xs):Rsx w0 w v xs:=by
 refine ⟨h.2,?_⟩;have h1:=h.1;rcases h.1.2 with ⟨rfl,h0⟩ | ⟨g,cap,cur,rfl,hg,hh,hn,hcap,hsz,htake⟩
 ·exact .inl ⟨List.eq_nil_of_length_eq_zero h0,none,0,rfl,by omega⟩
 ·refine .inr ⟨g,cap,rfl,hg,(h1.lt g rfl).2,hn,by unfold maxLen at hcap; omega,fun i j hi hj=>?_⟩;have e:=h1.cells (g:=g) rfl (i * 8+j) _ (x6E xs i j hi hj);rw [addr_add,Nat.zero_add] at e;exact e
theorem Rsh.holds [Inhabited Rec] {w0 w:World} {xs:List Sp} {g cap:Nat} (h:Rsh w0 w (.slice (some ⟨g,0,none⟩) xs.length cap) xs):HoldsK encR 8 w g 0 xs.toArray:=by
 intro j hj;rw [size_flatK] at hj;have hj2:j<xs.length * 8:=(by simpa using hj);rw [get_flatK _ _ _ _ hj];have hd:j / 8<xs.length:=by omega
 have e:=h.1.cells (g:=g) rfl j _ (by
  have:=x6E xs (j / 8) (j % 8) hd (by omega);rw [show j / 8 * 8+j % 8=j by omega] at this
  exact this)
 rw [addr_add,Nat.zero_add] at e
 have ed:xs.toArray[j / 8]! = xs.getD (j / 8) (Cn.none,none,0,0):=by
  rw [getElem!_pos _ _ (by simpa using hd)];simp [List.getD,hd]
 rw [ed,Nat.zero_add];refine ⟨e,?_⟩;rcases h.1.2 with ⟨hv,_⟩ | ⟨g',cap',cur,hv,_,hh,_⟩
 ·simp at hv
 ·simp only [Value.slice.injEq,Option.some.injEq,Addr.mk.injEq,and_true] at hv;obtain ⟨rfl,_,_⟩:=hv;exact x0e hh
theorem y2v [Inhabited Rec] {w:World} {blk n:Nat} {d:Array Sp} {os:Array Obj}:w.grownBy (sortWorldK encR 8 w blk 0 n d os) (some blk):=by
 refine ⟨rfl,rfl,rfl,?_,fun k hk hne=>?_⟩
 ·show w.heap.size<=((putRowK encR 8 (Sort.ahead w n) blk 0 d).heap++os).size;rw [Array.size_append];have:(putRowK encR 8 (Sort.ahead w n) blk 0 d).heap.size=w.heap.size:=(by unfold putRowK; rw [size_putRow]; rfl);omega
 ·show ((putRowK encR 8 (Sort.ahead w n) blk 0 d).heap++os)[k]?=_;have hs:(putRowK encR 8 (Sort.ahead w n) blk 0 d).heap.size=w.heap.size:=(by unfold putRowK; rw [size_putRow]; rfl);rw [Array.getElem?_append_left (by omega)];show (w.heap.modify blk _)[k]?=_;rw [Array.getElem?_modify,if_neg (fun e=>hne (by rw [e]))]
theorem y9K (p:Option Addr) (cap:Nat) (fv:Value) (w:World):Calls prog 175 #[.slice p 0 cap,.int .i64 0,.int .i64 0,fv] w fun e w'=>e=.returned (.tuple #[])/\w'=w:=by
 go_enter func175,ntmps175;go_wp2;refine wp_loop_rounds 1 ?_;rw [rounds_succ];go_wp2;go_end0;exact ⟨rfl,rfl⟩
theorem z0h (p:Option Addr) (cap:Nat) (bw:Int) (fv:Value) (w:World):Calls prog 142 #[.slice p 0 cap,.int .i64 0,.int .i64 0,.int .i64 bw,fv] w fun e w'=>e=.returned (.tuple #[])/\w'=w:=by
 have hi:=fun W=>y9K p cap fv W;go_enter func142,ntmps142;go_wp2;refine wp_loop_rounds 1 ?_;rw [rounds_succ];go_wp2_with (go_at_call 175; refine (hi _).mono ?_; rintro e w' ⟨rfl,rfl⟩)
 (try simp only [Exit.inBlock,Exit.then]); refine bodyPost_ret (results_none rfl _ _ _) rfl ?_
 exact ⟨rfl,rfl⟩
theorem y7H (p:Option Addr) (cap:Nat) (fv:Value) (w:World):Calls prog 110 #[.slice p 0 cap,fv] w fun e w'=>e=.returned (.tuple #[])/\w'=w:=by
 have hl:∀ W,Calls prog 143 #[.int .u64 0] W fun e w'=>e=.returned (.int .i64 0)/\w'=W:=fun W =>
  Any.bits_Len (SlLaysF0.n15.bits (P:=prog) (ρ:=Tryz.lays110_ren) { Tryz.lays110 with }) 0 W (by omega) (by omega)
 have hp:=fun bw W=>z0h p cap bw fv W;go_enter func110,ntmps110;go_wp2_with (first | (go_at_call 143; refine (hl _).mono ?_; rintro e w' ⟨rfl,rfl⟩) | (go_at_call 142; refine (hp _ _).mono ?_; rintro e w' ⟨rfl,rfl⟩));go_end0;exact ⟨rfl,rfl⟩
def SortB (w0 w:World) (v:Value) (xs:List Sp) (e:Ending) (w':World):Prop:=e=.returned (.tuple #[])/\∃ xs':List Sp,xs'.Perm xs/\(xs'.Pairwise fun a b=>a.1.lo<=b.1.lo)/\Rsx w0 w' v xs'/\w.grownBy w' v.ownBlock
theorem y0X (w0 w:World) (v:Value) (xs:List Sp) (h:Rsh w0 w v xs) (hl:xs.length<=1000000000):Calls prog 110 #[v,.func (.func 111) #[] #[]] w (SortB w0 w v xs):=by
 have inh:Inhabited Rec:=⟨Cn.none⟩;rcases h.1.2 with ⟨rfl,h0⟩ | ⟨g,cap,cur,rfl,hg,hh,hn,hcap,hsz,htake⟩
 ·obtain rfl:xs=[]:=List.eq_nil_of_length_eq_zero h0;refine (y7H none 0 _ w).mono ?_;rintro e w' ⟨rfl,rfl⟩;exact ⟨rfl,[],List.Perm.refl _,.nil,h.rsx,⟨rfl,rfl,rfl,l0r _,fun _ _ _=>rfl⟩⟩
 ·have bf:=(h.1.lt g rfl).2;have hH:=h.holds;have eg:∀ args w,(callFunc 111 args).run prog w=.ok (.enter 111 args) w:=enters_of func111 (by kernel_rfl) rfl;have bu:CmpLays prog 111 #[] encR 8 loOf g 0 xs.toArray.size w:=fun _ _ _ _ x y=>y6n x y _;have aE:∀ w,(isAgg 50).run prog w=.ok true w:=Tryz.isAgg50;have zE:∀ w,(Go.sizeOf 50).run prog w=.ok 8 w:=Tryz.sizeOf50;have K:=AnyQ.slices_SortFunc Tryz.lays110 8 aE zE encR y0m x6A loOf swoLo 111 #[] g 0 cap xs.toArray w eg bu hH bf (by simp; omega);change Calls prog 110 #[.slice (some ⟨g,0,none⟩) xs.length cap,_] w _ at K;refine K.mono ?_;rintro e w' ⟨rfl,d',n,os,⟨p1,_,p3⟩,hs,rfl⟩;have bx:d'.size=xs.length:=by simpa using p1
  have ba:d'.toList.Perm xs:=by
   have e1:d'.extract 0 xs.toArray.size=d':=(by rw [<- p1,Array.extract_size]);rw [e1] at p3;simpa using p3
  have hw':SWK encR 8 w g 0 d' (sortWorldK encR 8 w g 0 n d' os):=⟨n,os,rfl⟩;have hh':=hw'.holds bf hH p1;refine ⟨rfl,d'.toList,ba,?_,⟨fun x hx=>h.2 x (ba.mem_iff.1 hx),.inr ⟨g,cap,by rw [show d'.toList.length=xs.length by simpa using bx],hg,hw'.lt bf,by rw [Array.length_toList,bx]; exact hn,by unfold maxLen at hcap; omega,fun i j hi hj=>?_⟩⟩,y2v⟩
  ·rw [List.pairwise_iff_getElem];intro i j hi hj bg;have:=hs i j (Nat.zero_le _) bg (by simp at hj ⊢; omega);rw [ltLo,decide_eq_false_iff_not] at this;rw [getElem!_pos d' j (by simpa using hj),getElem!_pos d' i (by simpa using hi)] at this;simp only [Array.getElem_toList];omega
  ·rw [Array.length_toList] at hi;have:=(hh'.cell (i:=i) (c:=j) hi hj).1;rw [Nat.zero_add] at this;rw [this,getElem!_pos d' i hi];simp [List.getD,hi]
open Go.RowKit Go.MapKept Go.WideMaps
open Go.ChangeMaps (setBlock)
theorem pairLaw2:KeyLaw prog 149:=deep_law_laid x4r (m:=3) (by decide) (o0d (by kernel_rfl)) (by kernel_rfl) (by kernel_rfl)
def pk2 (a b:Int):Value:=.agg #[.int .i32 a,.int .i32 b]
theorem y0f:prog.cellsOf 149=2:=by kernel_rfl
theorem y3k:prog.cellsOf 21=1:=by kernel_rfl
theorem y1Q:prog.keyType 149=true:=by kernel_rfl
theorem x2A {a:Int} (h:Rune a) (D:Nat):prog.keyLits (D+1) 21 [.int .i32 a]=some [.int .i32 a]:=by
 rw [Program.keyLits.eq_def];simp only [underlying21]
 have hw:(Lit.int .i32 a).wf=true:=by
  unfold Rune at h;simp [Lit.wf,IntKind.min,IntKind.max,IntKind.signed,IntKind.bits]; omega
 rw [if_pos ⟨trivial,hw⟩]
theorem x9s {a b:Int} (ha:Rune a) (hb:Rune b) (D:Nat):prog.keyLits (D+2) 149 [.int .i32 a,.int .i32 b]=some [.int .i32 a,.int .i32 b]:=by
 rw [Program.keyLits.eq_def];simp only [underlying149,y0f,y3k];rw [if_pos (show [Value.int .i32 a,Value.int .i32 b].length=2 from rfl)];have e:List.range 2=[0,1]:=rfl;rw [e];simp [List.mapM_cons,x2A ha D,x2A hb D]
theorem x9z {a b:Int} (ha:Rune a) (hb:Rune b):∃ l,keyOf prog 149 (pk2 a b)=some l:=by
 have hf:(pk2 a b).formed prog 149=true:=by
  simp [pk2,Value.formed,underlying149,y0f]
 obtain ⟨n,hn⟩:∃ n,prog.types.size+1=n+2:=⟨prog.types.size - 1,by have:0<prog.types.size:=o0d (by kernel_rfl); omega⟩;refine ⟨.string (keyBytes [.int .i32 a,.int .i32 b]),?_⟩;unfold keyOf;simp only [underlying149,y1Q,hf,Bool.and_self,if_true,hn];show (prog.keyLits (n+2) 149 [.int .i32 a,.int .i32 b]).map _=_;rw [x9s ha hb n];rfl
theorem y4R {a b a' b':Int} (h:pk2 a b=pk2 a' b'):a=a'/\b=b':=by
 unfold pk2 at h;simpa using h
structure PObj (es:Array MapEntry) (am:Nat) (c:Int->Int->Option Int):Prop where
 st:Stamped es am
 keys:∀ x∈es.toList,∃ a b n,x.key=pk2 a b/\x.val=.int .i64 n/\c a b=some n/\Rune a/\Rune b
 none:∀ a b,(∀ x∈es.toList,x.key≠pk2 a b)->c a b=none
def PAt (w:World) (r:Nat) (c:Int->Int->Option Int):Prop:=∃ es am,w.heap[r]?=some (.map es am)/\PObj es am c
theorem PObj.ks {es:Array MapEntry} {am:Nat} {c:Int->Int->Option Int} (h:PObj es am c):∀ x∈es.toList,∃ l,keyOf prog 149 x.key=some l:=fun x hx=>by
 obtain ⟨a,b,n,e,_,_,ha,hb⟩:=h.keys x hx;rw [e];exact x9z ha hb
theorem z1W:PObj #[] 0 (fun _ _=>none):=⟨⟨fun x hx=>by simp at hx,by simp,by simp⟩,fun x hx=>by simp at hx,fun _ _ _=>rfl⟩
theorem look_ok {w:World} {r:Nat} {c:Int->Int->Option Int} (h:PAt w r c) {a b:Int} (ha:Rune a) (bi:Rune b) :
  (Instr.lookup 116 (.map (some r)) (pk2 a b) true).run prog w=.ok (.tuple #[.int .i64 ((c a b).getD 0),.bool (c a b).isSome]) w/\(Instr.lookup 116 (.map (some r)) (pk2 a b) false).run prog w=.ok (.int .i64 ((c a b).getD 0)) w:=by
 obtain ⟨es,am,hb,h⟩:=h;obtain ⟨l,hl⟩:=x9z ha bi;rcases pairLaw2.find w hl es.toList h.ks with ⟨h1,h2⟩ | ⟨j,e0,h1,h2,h3⟩
 ·rw [h.none a b h2];refine ⟨?_,?_⟩
  ·simp [Instr.lookup,run_underlying underlying116,MapKept.run_getObj_map hb,pairLaw2.check w _ hl,h1,Result.andThen]
  ·simp [Instr.lookup,run_underlying underlying116,MapKept.run_getObj_map hb,pairLaw2.check w _ hl,h1,Result.andThen]
 ·obtain ⟨a',b',n,e1,e2,e3,_,_⟩:=h.keys e0 (List.mem_of_getElem? h2);obtain ⟨rfl,rfl⟩:=y4R (e1.symm.trans h3);rw [e3];refine ⟨?_,?_⟩
  ·simp [Instr.lookup,run_underlying underlying116,MapKept.run_getObj_map hb,pairLaw2.check w _ hl,h1,Result.andThen,e2]
  ·simp [Instr.lookup,run_underlying underlying116,MapKept.run_getObj_map hb,pairLaw2.check w _ hl,h1,Result.andThen,e2]
def setP (c:Int->Int->Option Int) (a b n:Int):Int->Int->Option Int:=fun x y=>if x=a/\y=b then some n else c x y
theorem y2s {w:World} {r:Nat} {c:Int->Int->Option Int} (h:PAt w r c) {a b:Int} (ha:Rune a) (bi:Rune b) (hn:c a b=none) (n:Int) :
  ∃ es' clock',(Instr.mapUpdate 116 (.map (some r)) (pk2 a b) (.int .i64 n)).run prog w=.ok () (setBlock w r (.map es' clock'))/\PObj es' clock' (setP c a b n):=by
 obtain ⟨es,am,hb,h⟩:=h;obtain ⟨l,hl⟩:=x9z ha bi;rcases pairLaw2.find w hl es.toList h.ks with ⟨h1,h2⟩ | ⟨j,e0,h1,h2,h3⟩
 ·refine ⟨es.push ⟨pk2 a b,.int .i64 n,am⟩,am+1,?_,⟨stamped_push h.st h2,fun x hx=>?_,fun a' b' hn'=>?_⟩⟩
  ·simp [Instr.mapUpdate,run_underlying underlying116,MapKept.run_getObj_map hb,pairLaw2.check w false hl,h1,MapKept.run_setObj_map _ hb,Result.andThen,setBlock]
  ·simp only [Array.toList_push,List.mem_append,List.mem_singleton] at hx;rcases hx with hx | rfl
   ·obtain ⟨a',b',m,e1,e2,e3,e4⟩:=h.keys x hx;refine ⟨a',b',m,e1,e2,?_,e4⟩;unfold setP;rw [if_neg,e3];rintro ⟨rfl,rfl⟩;rw [hn] at e3; cases e3
   ·exact ⟨a,b,n,rfl,rfl,by unfold setP; rw [if_pos ⟨rfl,rfl⟩],ha,bi⟩
  ·unfold setP;rw [if_neg]
   ·exact h.none a' b' fun x hx=>hn' x (by simp [hx])
   ·rintro ⟨rfl,rfl⟩;exact hn' ⟨pk2 a' b',.int .i64 n,am⟩ (by simp) rfl
 ·obtain ⟨a',b',m,e1,e2,e3,_,_⟩:=h.keys e0 (List.mem_of_getElem? h2);obtain ⟨rfl,rfl⟩:=y4R (e1.symm.trans h3);rw [hn] at e3; cases e3
theorem x6h (r:Rec) (vt:Value) (w:World) (hv:Sk .i32 w vt r.to) (h2:r.to.length=2):Calls prog 109 #[recV r vt] w fun e w'=>e=.returned (pk2 (r.to.getD 0 0) (r.to.getD 1 0))/\Bw w w':=by
 obtain ⟨b,off,cap,rfl,_,hc,a9⟩:=hv.place (by omega);have y0:=a9 0 (by omega);have y1:=a9 1 (by omega);rw [Nat.add_zero] at y0;have bf:=x0a y0;have Y0:∀ W,Bw w W->W.cell? ⟨b,off,none⟩=some (.int .i32 (r.to.getD 0 0)):=fun W h=>(by rw [h.cell bf]; exact y0);have Y1:∀ W,Bw w W->W.cell? ⟨b,off+1,none⟩=some (.int .i32 (r.to.getD 1 0)):=fun W h=>(by rw [h.cell bf]; exact y1);have hB:Bw w ((w.alloc (.cells #[.int .i64 r.kind,.int .i64 r.lo,.int .i64 r.hi,.int .i64 r.n,.slice (some ⟨b,off,none⟩) 2 cap,.string r.name,.string r.other,.float .f64 r.wt] 50)).alloc (.cells #[.int .i32 0,.int .i32 0] 149)):=((b0r).alloc (l0r _) _).alloc (by simp) _;have z0:=Y0 _ hB;have z1:=Y1 _ hB;rw [h2];unfold recV pk2;clear hv a9 Y0 Y1 y0 y1 hB;generalize r.to.getD 0 0=p at *;generalize r.to.getD 1 0=q at *;go_enter func109,ntmps109;go_wp2;go_region;go_wp2;go_returns;exact ⟨rfl,(((b0r).alloc (l0r _) _).alloc (by simp) _).trans ((x0k ⟨1,rfl⟩).mono (by simp; omega))⟩
open Go.RowKit Go.MapKept Go.WideMaps
open Go.ChangeMaps (setBlock)
structure KL (T:TypeId) (K:Value->Prop):Prop where
 check:∀ (w:World) (em:Bool) (v:Value),K v->(Instr.checkKey em 10000 T v).run prog w=.ok () w
 find:∀ (w:World) (x:Value),K x->∀ es:List MapEntry,(∀ e∈es,K e.key)->((Instr.findKey T x es).run prog w=.ok none w/\∀ e∈es,e.key≠x)\/∃ j e,(Instr.findKey T x es).run prog w=.ok (some (j,e.val)) w/\es[j]?=some e/\e.key=x
 stays:∀ (w:World) (v:Value),K v->(Instr.keyThatStays v v).run prog w=.ok v w
theorem KL.of {T:TypeId} {K:Value->Prop} (h:KeyLaw prog T) (hk:∀ v,K v->∃ l,keyOf prog T v=some l):KL T K :=
 ⟨fun w em v hv=>by obtain ⟨l,hl⟩:=hk v hv; exact h.check w em hl,fun w x hx es hes=>by obtain ⟨l,hl⟩:=hk x hx; exact h.find w hl es (fun e he=>hk _ (hes e he)),fun w v hv=>by obtain ⟨l,hl⟩:=hk v hv; exact h.stays w hl⟩
structure GObj (K:Value->Prop) (es:Array MapEntry) (am:Nat) (c:Value->Option Value):Prop where
 st:Stamped es am
 keys:∀ x∈es.toList,K x.key/\c x.key=some x.val
 none:∀ k,(∀ x∈es.toList,x.key≠k)->c k=none
def GAt (K:Value->Prop) (w:World) (r:Nat) (c:Value->Option Value):Prop:=∃ es am,w.heap[r]?=some (.map es am)/\GObj K es am c
theorem y3V (K:Value->Prop) (c:Value->Option Value) (h:∀ k,c k=none):GObj K #[] 0 c:=⟨stamped_empty 0,fun x hx=>by simp at hx,fun k _=>h k⟩
section
variable {T M E:TypeId} {K:Value->Prop} {c c':Value->Option Value} {w:World} {r:Nat} {k z v:Value}
theorem y8j (L:KL T K) (hM:prog.underlying M=some (.map T E)) (hz:∀ w,(zeroValue E).run prog w=.ok z w) (h:GAt K w r c) (hk:K k) :
  (Instr.lookup M (.map (some r)) k true).run prog w=.ok (.tuple #[(c k).getD z,.bool (c k).isSome]) w/\(Instr.lookup M (.map (some r)) k false).run prog w=.ok ((c k).getD z) w:=by
 obtain ⟨es,am,hb,h⟩:=h;rcases L.find w k hk es.toList (fun e he=>(h.keys e he).1) with ⟨h1,h2⟩ | ⟨j,e0,h1,h2,h3⟩
 ·rw [h.none k h2];refine ⟨?_,?_⟩
  ·simp [Instr.lookup,run_underlying hM,MapKept.run_getObj_map hb,L.check w _ _ hk,h1,Result.andThen,hz]
  ·simp [Instr.lookup,run_underlying hM,MapKept.run_getObj_map hb,L.check w _ _ hk,h1,Result.andThen,hz]
 ·have e1:=(h.keys e0 (List.mem_of_getElem? h2)).2;rw [h3] at e1;rw [e1];refine ⟨?_,?_⟩
  ·simp [Instr.lookup,run_underlying hM,MapKept.run_getObj_map hb,L.check w _ _ hk,h1,Result.andThen]
  ·simp [Instr.lookup,run_underlying hM,MapKept.run_getObj_map hb,L.check w _ _ hk,h1,Result.andThen]
theorem x6F (L:KL T K) (hM:prog.underlying M=some (.map T E)) (h:GAt K w r c) (hk:K k) (h1:c' k=some v) (h2:∀ x,x≠k->c' x=c x) :
  ∃ es' clock',(Instr.mapUpdate M (.map (some r)) k v).run prog w=.ok () (setBlock w r (.map es' clock'))/\GObj K es' clock' c':=by
 obtain ⟨es,am,hb,h⟩:=h;rcases L.find w k hk es.toList (fun e he=>(h.keys e he).1) with ⟨f1,f2⟩ | ⟨j,e0,f1,f2,f3⟩
 ·refine ⟨es.push ⟨k,v,am⟩,am+1,?_,⟨stamped_push h.st f2,fun x hx=>?_,fun x hn=>?_⟩⟩
  ·simp [Instr.mapUpdate,run_underlying hM,MapKept.run_getObj_map hb,L.check w false _ hk,f1,MapKept.run_setObj_map _ hb,Result.andThen,setBlock]
  ·simp only [Array.toList_push,List.mem_append,List.mem_singleton] at hx;rcases hx with hx | rfl
   ·refine ⟨(h.keys x hx).1,?_⟩;rw [h2 _ (f2 x hx)];exact (h.keys x hx).2
   ·exact ⟨hk,h1⟩
  ·have bp:x≠k:=fun e=>hn ⟨k,v,am⟩ (by simp) e.symm;rw [h2 x bp];exact h.none x fun y hy=>hn y (by simp [hy])
 ·have bj:es[j]?=some e0:=(by simpa using f2);have hjl:j<es.size:=(Array.getElem?_eq_some_iff.1 bj).1;refine ⟨es.modify j fun e=>{ e with key:=k,val:=v },am,?_,⟨stamped_modify h.st j _ (fun _ _=>rfl) (fun e _ he=>?_),fun x hx=>?_,fun x hn=>?_⟩⟩
  ·simp [Instr.mapUpdate,run_underlying hM,MapKept.run_getObj_map hb,L.check w false _ hk,f1,bj,f3,L.stays w _ hk,MapKept.run_setObj_map _ hb,Result.andThen,setBlock]
  ·rw [bj] at he;cases he;exact f3.symm
  ·obtain ⟨i,hi⟩:=List.getElem?_of_mem hx;rw [Array.getElem?_toList,Array.getElem?_modify] at hi;by_cases bg:j=i
   ·subst bg;rw [if_pos rfl,bj] at hi;simp only [Option.map_some,Option.some.injEq] at hi;rw [<- hi];exact ⟨hk,h1⟩
   ·rw [if_neg bg] at hi;have hm:x∈es.toList:=List.mem_of_getElem? (by rw [Array.getElem?_toList]; exact hi)
    have bp:x.key≠k:=fun e=>by
     have hnd:=h.st.2.2;have e1:(es.toList.map (·.key))[i]?=some k:=(by rw [List.getElem?_map,Array.getElem?_toList,hi,Option.map_some,e]);have e2:(es.toList.map (·.key))[j]?=some k:=(by rw [List.getElem?_map,Array.getElem?_toList,bj,Option.map_some,f3]);have bz:i<(es.toList.map (·.key)).length:=(List.getElem?_eq_some_iff.1 e1).1;exact bg ((List.getElem?_inj bz hnd).1 (e1.trans e2.symm)).symm
    rw [h2 _ bp];exact h.keys x hm
  ·have bp:x≠k:=fun e=>by
    have bv:(⟨k,v,e0.born⟩:MapEntry)∈(es.modify j fun e=>{ e with key:=k,val:=v }).toList:=by
     refine List.mem_of_getElem? (i:=j) ?_;rw [Array.getElem?_toList,Array.getElem?_modify,if_pos rfl,bj];rfl
    exact hn _ bv e.symm
   rw [h2 x bp];refine h.none x fun y hy=>?_;obtain ⟨i,hi⟩:=List.getElem?_of_mem hy;rw [Array.getElem?_toList] at hi;by_cases bg:j=i
   ·subst bg;rw [bj] at hi;cases hi;rw [f3];exact fun e=>bp e.symm
   ·refine hn y (List.mem_of_getElem? (i:=i) ?_);rw [Array.getElem?_toList,Array.getElem?_modify,if_neg bg];exact hi
end
namespace Cn
def isP (a b:Int) (r:Rec):Bool:=decide (r.kind=7/\r.to.getD 0 0=a/\r.to.getD 1 0=b)
def firstP (l:List Rec) (a b:Int):Option Int:=(l.findIdx? (isP a b)).map Int.ofNat
theorem x2M (l:List Rec) (r:Rec) (a b:Int):firstP (l++[r]) a b=(firstP l a b).or (if isP a b r then some (l.length:Int) else Option.none):=by
 unfold firstP;rw [List.findIdx?_append]
 cases h:l.findIdx? (isP a b) with
 | some n=>simp
 | none =>
  simp only [Option.map_none,Option.none_or];rw [List.findIdx?_cons];by_cases hp:isP a b r=true
  ·simp [hp]
  ·simp [hp]
theorem x2m {l:List Rec} {r:Rec} (h:r.kind≠7):firstP (l++[r])=firstP l:=by
 funext a b;rw [x2M,show isP a b r=false by unfold isP; exact d0f (fun q=>h q.1)];simp
theorem x7L {l:List Rec} {r:Rec} (hk:(firstP l (r.to.getD 0 0) (r.to.getD 1 0)).isSome=true):firstP (l++[r])=firstP l:=by
 funext a b;rw [x2M];by_cases h:isP a b r=true
 ·obtain ⟨_,rfl,rfl⟩:=o0d h;obtain ⟨n,hn⟩:=Option.isSome_iff_exists.1 hk;rw [hn]; rfl
 ·rw [if_neg h]; simp
theorem y1G {l:List Rec} {r:Rec} (h7:r.kind=7) (hk:firstP l (r.to.getD 0 0) (r.to.getD 1 0)=Option.none):firstP (l++[r])=setP (firstP l) (r.to.getD 0 0) (r.to.getD 1 0) (l.length:Int):=by
 funext a b;rw [x2M];unfold setP;by_cases h:a=r.to.getD 0 0/\b=r.to.getD 1 0
 ·obtain ⟨rfl,rfl⟩:=h;rw [hk,show isP (r.to.getD 0 0) (r.to.getD 1 0) r=true from d0t ⟨h7,rfl,rfl⟩];simp
 ·rw [if_neg h,show isP a b r=false from d0f (fun q=>h ⟨q.2.1.symm,q.2.2.symm⟩)];simp
theorem y3I {l:List Rec} {i:Nat} (hi:i<l.length) (h7:(l.getD i none).kind=7):((firstP l ((l.getD i none).to.getD 0 0) ((l.getD i none).to.getD 1 0)).getD 0<(i:Int))↔((l.take i).any fun k=>decide (k.kind=7/\k.to.getD 0 0=(l.getD i none).to.getD 0 0/\k.to.getD 1 0=(l.getD i none).to.getD 1 0))=true:=by
 have eg:l.getD i none=l[i]:=getD_at hi
 have hp:isP ((l.getD i none).to.getD 0 0) ((l.getD i none).to.getD 1 0) l[i]=true:=by
  rw [eg] at h7 ⊢;exact d0t ⟨h7,rfl,rfl⟩
 generalize (l.getD i none).to.getD 0 0=a at *;generalize (l.getD i none).to.getD 1 0=b at *;have bs:((l.take i).any fun k=>decide (k.kind=7/\k.to.getD 0 0=a/\k.to.getD 1 0=b))=(l.take i).any (isP a b):=rfl;rw [bs];unfold firstP
 cases hf:l.findIdx? (isP a b) with
 | none =>
  rw [List.findIdx?_eq_none_iff] at hf;rw [hf _ (List.getElem_mem hi)] at hp;cases hp
 | some n =>
  obtain ⟨hn,bA,bB⟩:=List.findIdx?_eq_some_iff_getElem.1 hf;simp only [Option.map_some,Option.getD_some,List.any_eq_true];constructor
  ·intro h
   have bf:n<i:=by
    have:(Int.ofNat n)=(n:Int):=rfl;omega
   exact ⟨l[n],List.mem_take_iff_getElem.2 ⟨n,by omega,rfl⟩,bA⟩
  ·rintro ⟨x,hx,bC⟩;obtain ⟨j,hj,rfl⟩:=List.mem_take_iff_getElem.1 hx
   have hjn:n<=j:=by
    rcases Nat.lt_or_ge j n with h | h
    ·exact absurd bC (by simpa using bB j h)
    ·exact h
   show (Int.ofNat n)<(i:Int);have:(Int.ofNat n)=(n:Int):=rfl;omega
end Cn
open Go.ChangeMaps (setBlock)
structure NI (w0 W:World) (c:Int->Int->Option Int) (cv ov:Value) (aU aV:List Sp):Prop where
 hr:W.heap[w0.heap.size]?=some (.cells #[.slice none 0 0,.slice none 0 0,.map none] 118 (0,0))
 hm:PAt W (w0.heap.size+1) c
 hx:W.heap[w0.heap.size+2]?=some (.cells #[cv,ov,.map (some (w0.heap.size+1))] 118 (0,0))
 hc:Rsh w0 W cv aU
 ho:Rsh w0 W ov aV
 ap:∀ g,cv.ownBlock=some g->ov.ownBlock≠some g
 bel:Below w0.heap.size w0 W
theorem x0w {W:World} {g:Nat} {o:Obj} (h:W.heap[g]?=some o):g<W.heap.size:=by
 rcases Nat.lt_or_ge g W.heap.size with h1 | h1
 ·exact h1
 ·rw [Array.getElem?_eq_none h1] at h; cases h
theorem Rsh.keep {w0 W W':World} {v:Value} {xs:List Sp} (h:Rsh w0 W v xs) (hk:∀ g,v.ownBlock=some g->W'.heap[g]?=W.heap[g]?):Rsh w0 W' v xs:=⟨x0t h.1 hk,h.2⟩
theorem NI.below {w0 W W':World} {c:Int->Int->Option Int} {cv ov:Value} {aU aV:List Sp} (h:NI w0 W c cv ov aU aV) (hb:Bw W W'):NI w0 W' c cv ov aU aV:=by
 obtain ⟨es,cl,a8,br⟩:=h.hm
 exact ⟨by rw [hb.block _ (x0w h.hr)]; exact h.hr,⟨es,cl,by rw [hb.block _ (x0w a8)]; exact a8,br⟩,by rw [hb.block _ (x0w h.hx)]; exact h.hx,
  h.hc.keep fun g hg=>hb.block g (h.hc.1.lt g hg).2,h.ho.keep fun g hg=>hb.block g (h.ho.1.lt g hg).2,h.ap,x0b h.bel hb⟩
theorem z0r {w0 W:World} {v:Value} {xs:List Sp} (h:Rsh w0 W v xs) {g:Nat} (hg:v.ownBlock=some g):∃ cur,W.heap[g]?=some (.cells cur 50 (0,0)):=by
 rcases h.1.2 with ⟨rfl,_⟩ | ⟨k,cap,cur,rfl,_,hh,_⟩
 ·cases hg
 ·simp [Value.ownBlock] at hg;subst hg;exact ⟨cur,hh⟩
theorem NI.far {w0 W:World} {c:Int->Int->Option Int} {cv ov v:Value} {aU aV xs:List Sp} (h:NI w0 W c cv ov aU aV) (hv:Rsh w0 W v xs):∀ g,v.ownBlock=some g->g≠w0.heap.size/\g≠w0.heap.size+1/\g≠w0.heap.size+2:=by
 intro g hg;obtain ⟨cur,a6⟩:=z0r hv hg;refine ⟨fun e=>?_,fun e=>?_,fun e=>?_⟩
 ·rw [e,h.hr] at a6; simp at a6
 ·obtain ⟨es,cl,a8,_⟩:=h.hm;rw [e,a8] at a6; simp at a6
 ·rw [e,h.hx] at a6; simp at a6
theorem NI.classes {w0 W w1:World} {c:Int->Int->Option Int} {cv ov v':Value} {aU aV:List Sp} {o:Obj} {x:Sp} (h:NI w0 W c cv ov aU aV) (hx:Sk .i32 w0 (sval x) x.1.to/\RecFit x.1)
  (bm:w1.ownsRow w0.heap.size 50 8 v' (aU.length+1) (aU.flatMap encR++encR x)) (hg:(W.alloc o).grownBy w1 cv.ownBlock) (bt:v'.ownBlock=cv.ownBlock\/v'.ownBlock=some (W.heap.size+1)) :
  w1.heap[w0.heap.size+2]?=some (.cells #[cv,ov,.map (some (w0.heap.size+1))] 118 (0,0))/\NI w0 (w1.setCell ⟨w0.heap.size+2,0,none⟩ v') c v' ov (aU++[x]) aV:=by
 have kA:∀ g,g<W.heap.size->(W.alloc o).heap[g]?=W.heap[g]?:=fun g hg=>((Below.refl W.heap.size W).alloc (l0r _) _).block g hg
 have k1:∀ g,g<W.heap.size->cv.ownBlock≠some g->w1.heap[g]?=W.heap[g]?:=fun g h1 h2=>by
  rw [hg.block g (by simp; omega) (fun e=>h2 e.symm),kA g h1]
 have aS:=h.far h.hc;have bq:w1.heap[w0.heap.size+2]?=some (.cells #[cv,ov,.map (some (w0.heap.size+1))] 118 (0,0)):=by rw [k1 _ (x0w h.hx) (fun e=>(aS _ e).2.2 rfl)]; exact h.hx
 have bk:Rsh w0 w1 v' (aU++[x]):=⟨by simpa using bm,fun y hy=>by
  rcases List.mem_append.1 hy with hy | hy
  ·exact h.hc.2 y hy
  ·simp only [List.mem_singleton] at hy
   subst hy; exact hx⟩
 have hold:∀ g,v'.ownBlock=some g->g≠w0.heap.size+2/\ov.ownBlock≠some g:=fun g hg'=>by
  rcases bt with e | e
  ·rw [e] at hg';exact ⟨(aS g hg').2.2,h.ap g hg'⟩
  ·rw [e] at hg';simp at hg';have l1:=x0w h.hx;refine ⟨by omega,fun e2=>?_⟩;have:=(h.ho.1.lt g e2).2;omega
 obtain ⟨es,cl,a8,br⟩:=h.hm;refine ⟨bq,⟨?_,⟨es,cl,?_,br⟩,?_,?_,?_,fun g hg'=>(hold g hg').2,?_⟩⟩
 ·rw [x0g _ (by omega),k1 _ (x0w h.hr) (fun e=>(aS _ e).1 rfl)]; exact h.hr
 ·rw [x0g _ (by omega),k1 _ (x0w a8) (fun e=>(aS _ e).2.1 rfl)]; exact a8
 ·rw [x0f bq]; rfl
 ·exact bk.keep fun g hg'=>by rw [x0g _ (hold g hg').1]
 ·refine h.ho.keep fun g hg'=>?_;rw [x0g _ (h.far h.ho g hg').2.2,k1 g (h.ho.1.lt g hg').2 (fun e=>h.ap g e hg')]
 ·have b1:Bw w0 w1:=(h.bel.alloc h.bel.size o).grown hg (by have:=h.bel.size; simp; omega) (fun k hk=>(h.hc.1.lt k hk).1);exact x0c b1 (by omega) v'
theorem NI.opens {w0 W w1:World} {c:Int->Int->Option Int} {cv ov v':Value} {aU aV:List Sp} {o:Obj} {x:Sp} (h:NI w0 W c cv ov aU aV) (hx:Sk .i32 w0 (sval x) x.1.to/\RecFit x.1)
  (bm:w1.ownsRow w0.heap.size 50 8 v' (aV.length+1) (aV.flatMap encR++encR x)) (hg:(W.alloc o).grownBy w1 ov.ownBlock) (bt:v'.ownBlock=ov.ownBlock\/v'.ownBlock=some (W.heap.size+1)) :
  w1.heap[w0.heap.size+2]?=some (.cells #[cv,ov,.map (some (w0.heap.size+1))] 118 (0,0))/\NI w0 (w1.setCell ⟨w0.heap.size+2,1,none⟩ v') c cv v' aU (aV++[x]):=by
 have kA:∀ g,g<W.heap.size->(W.alloc o).heap[g]?=W.heap[g]?:=fun g hg=>((Below.refl W.heap.size W).alloc (l0r _) _).block g hg
 have k1:∀ g,g<W.heap.size->ov.ownBlock≠some g->w1.heap[g]?=W.heap[g]?:=fun g h1 h2=>by
  rw [hg.block g (by simp; omega) (fun e=>h2 e.symm),kA g h1]
 have aS:=h.far h.ho;have bq:w1.heap[w0.heap.size+2]?=some (.cells #[cv,ov,.map (some (w0.heap.size+1))] 118 (0,0)):=by rw [k1 _ (x0w h.hx) (fun e=>(aS _ e).2.2 rfl)]; exact h.hx
 have bk:Rsh w0 w1 v' (aV++[x]):=⟨by simpa using bm,fun y hy=>by
  rcases List.mem_append.1 hy with hy | hy
  ·exact h.ho.2 y hy
  ·simp only [List.mem_singleton] at hy
   subst hy; exact hx⟩
 have hold:∀ g,v'.ownBlock=some g->g≠w0.heap.size+2/\cv.ownBlock≠some g:=fun g hg'=>by
  rcases bt with e | e
  ·rw [e] at hg';exact ⟨(aS g hg').2.2,fun e2=>h.ap g e2 hg'⟩
  ·rw [e] at hg';simp at hg';have l1:=x0w h.hx;refine ⟨by omega,fun e2=>?_⟩;have:=(h.hc.1.lt g e2).2;omega
 obtain ⟨es,cl,a8,br⟩:=h.hm;refine ⟨bq,⟨?_,⟨es,cl,?_,br⟩,?_,?_,?_,fun g h1 h2=>(hold g h2).2 h1,?_⟩⟩
 ·rw [x0g _ (by omega),k1 _ (x0w h.hr) (fun e=>(aS _ e).1 rfl)]; exact h.hr
 ·rw [x0g _ (by omega),k1 _ (x0w a8) (fun e=>(aS _ e).2.1 rfl)]; exact a8
 ·rw [x0f bq]; rfl
 ·refine h.hc.keep fun g hg'=>?_;rw [x0g _ (h.far h.hc g hg').2.2,k1 g (h.hc.1.lt g hg').2 (fun e=>h.ap g hg' e)]
 ·exact bk.keep fun g hg'=>by rw [x0g _ (hold g hg').1]
 ·have b1:Bw w0 w1:=(h.bel.alloc h.bel.size o).grown hg (by have:=h.bel.size; simp; omega) (fun k hk=>(h.ho.1.lt k hk).1);exact x0c b1 (by omega) v'
theorem NI.upd {w0 W:World} {c c':Int->Int->Option Int} {cv ov:Value} {aU aV:List Sp} {es:Array MapEntry} {cl:Nat} (h:NI w0 W c cv ov aU aV) (ho:PObj es cl c'):NI w0 (setBlock W (w0.heap.size+1) (.map es cl)) c' cv ov aU aV:=by
 obtain ⟨es0,cl0,a8,_⟩:=h.hm;have bf:=x0w a8;refine ⟨by rw [x1G _ _ (by omega)]; exact h.hr,⟨es,cl,x9M _ _ _ bf,ho⟩,by rw [x1G _ _ (by omega)]; exact h.hx,?_,?_,h.ap,?_⟩
 ·exact h.hc.keep fun g hg=>x1G _ _ (h.far h.hc g hg).2.1
 ·exact h.ho.keep fun g hg=>x1G _ _ (h.far h.ho g hg).2.1
 ·exact h.bel.trans (x3t _ W _ _ (by omega))
namespace Cn
theorem y3E {k:Int} (h:fam k=2):k=6:=by
 revert h;unfold fam;split
 ·intro e; omega
 ·split
  ·intro e; omega
  ·split
   ·intro _; assumption
   ·split <;> (intro e; omega)
theorem fam_three' {k:Int} (h:fam k=3):k=7\/k=8:=by
 revert h;unfold fam;split
 ·intro e; omega
 ·split
  ·intro e; omega
  ·split
   ·intro e; omega
   ·split <;> (intro e; omega)
def y2H (a b:Rec):Prop:=right a=0/\right b=0/\clash a b=false
theorem x2K {f:Int} (hf:f=2\/f=3) {l cs:List Rec} {p:Rec->Bool} (hl:(check6 l).2=0) (hp:∀ r,p r=true↔fam r.kind=f) (ba:cs.Perm (l.filter p)) (hs:cs.Pairwise fun a b=>a.lo<=b.lo):x1l f cs/\∀ r,r∈cs↔r∈l/\fam r.kind=f:=by
 obtain ⟨_,hr,hc⟩:=x0n.1 hl;have hm:∀ r,r∈cs↔r∈l/\fam r.kind=f:=fun r=>(by rw [ba.mem_iff,List.mem_filter,hp]);have h1:l.Pairwise y2H:=hc.imp_of_mem fun {a b} ha hb h=>⟨hr a ha,hr b hb,h⟩;have h2:(l.filter p).Pairwise y2H:=h1.filter p;have h3:cs.Pairwise y2H:=(ba.pairwise_iff (fun {x y} ⟨a,b,c⟩=>⟨b,a,y6q a b c⟩)).2 h2;exact ⟨y2b hf (fun r hrc=>⟨hr r ((hm r).1 hrc).1,((hm r).1 hrc).2⟩) (h3.imp fun ⟨_,_,c⟩=>c) hs,hm⟩
end Cn
