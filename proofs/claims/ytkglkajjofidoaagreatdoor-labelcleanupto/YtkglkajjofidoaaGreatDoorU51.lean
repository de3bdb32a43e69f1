/- Li18 -/
import Derived.Test.YtkglkajjofidoaaGreatDoorU8
set_option maxHeartbeats 8000000
set_option maxRecDepth 20000
namespace Go.Proofs.YtkglkajjofidoaaGreatDoor
open Go.RowKit
open Ti
theorem y2y {X:List Int} {k:Nat} (hk:k<X.length):(X.drop k).take (k+1 - k)=[X.getD k 0]:=by
 rw [show k+1 - k=1 by omega,List.drop_eq_getElem_cons hk,List.take_succ_cons,List.take_zero];simp [List.getD,hk]
theorem clean_law18 (av:x9o) (ax:y1Q) (aw:y1N) (ac:x5Z) (v:Value) (aD:List Rec) (xv:Value) (xs:List Int) (fl:Int) (rtl dec:Bool) (w:World) (hg:Glob w) (hv:Rcs w v aD) (hx:Sk .i32 w xv xs):Calls Tryz.prog 5 #[v,xv,.int .i64 fl,.bool rtl,.bool dec] w (y1U w true):=by
 have K1:=Hd (x6B v aD w hg hv);obtain ⟨ao,cap,rfl,_,hcap⟩:=hv.shape;have HX:=Hd hx;obtain ⟨xo,xcap,aN,hxc1,hxc2⟩:=hx.shape;subst aN;have HG:=Hd hg;clear hg hv hx;generalize aD.take 150=rs at *;generalize aD.length=L at *;go_enter Tryz.func5,Tryz.ntmps5;go_wp2_with fail;refine (Uh K1).mono ?_;rintro e1 w1 ⟨b1,h1⟩;have ak:=Hd b1;clear K1 b1;rcases h1 with ⟨aC,rfl⟩ | ⟨h0,p,v2,ps2,rfl,hD,r2,p2⟩
 ·have K2:=Hd (ac w1 ((Uh HG).on (Uh ak)))
  clear aC;go_wp2_with fail;refine (Uh K2).mono ?_;rintro e2 w2 ⟨rfl,b2⟩;have ah:=Hd (x0b (Uh ak) b2);clear K2 b2;go_wp2;go_ret;exact ⟨rfl,Uh ah⟩
 ·have h6:=x2O h0
  obtain ⟨a2,cp2,hv2⟩:∃ a c,v2=.slice a ps2.length c:=by
   rcases r2.1.2 with ⟨h,h0⟩ | ⟨g,cap,cur,e,_⟩
   ·exact ⟨none,0,by rw [h,h0]⟩
   ·exact ⟨_,_,e⟩
  subst hv2;have aB:=(Uh HG).on (Uh ak);have aK:(xs.take 100).length≤100:=List.length_take_le _ _;have K3:=Hd (x7o _ xs 100 w1 ((Uh HX).below (Uh ak)) (by omega));have HC:Hid (∀ W,Below w1.heap.size w1 W→∀ yv Y,Sk .i32 W yv Y→Y.length≤100→Calls Tryz.prog 9 #[.pointer (some ⟨p,0,none⟩),yv,.int .i64 fl,.bool rtl,.bool dec] W (IntB W ((Lb.err (Cn.of18 rs Y) fl rtl dec Y:Nat):Int))):=fun W hW yv Y hY hl=>av _ p rs W yv Y fl rtl dec (aB.on hW) (hD.below hW) h0 hY (by omega);have HT:Hid (∀ W,Below w1.heap.size w1 W→Calls Tryz.prog 7 #[] W (y1U W true)):=fun W hW=>ac W (aB.on hW);have HI:Hid (∀ W,Below w1.heap.size w1 W→∀ yv Y,Sk .i32 W yv Y→Y.length≤100→Calls Tryz.prog 15 #[.pointer (some ⟨p,0,none⟩),yv] W (fun e w'=>e=.returned (.tuple #[.bool (Cn.of18 rs Y).nf,.int .i64 0])∧Below W.heap.size W w')):=fun W hW yv Y hY hl=>z0p (aB.on hW) (hD.below hW) h0 hY (by omega);have aG:Hid (∀ W,Below w1.heap.size w1 W→∀ Y c,Rune c→Calls Tryz.prog 16 #[.pointer (some ⟨p,0,none⟩),.int .i32 c] W (IntB W ((Cn.of18 rs Y).st c))):=fun W hW Y c hc=>(x5e c W (hD.below hW) h6 hc).mono fun _ _ h=>⟨h.1,x0l h.2⟩;have aF:Hid (∀ W,Below w1.heap.size w1 W→∀ Y c,Rune c→Calls Tryz.prog 17 #[.pointer (some ⟨p,0,none⟩),.int .i32 c] W (x0d W ((Cn.of18 rs Y).mrk c))):=fun W hW Y c hc=>(x7E c W (hD.below hW) h6 hc).mono fun _ _ h=>⟨h.1,x0l h.2⟩;have HL:=Hd ax;have HK:=Hd aw;clear hD r2 h0 HX HG p2 aB h6 av ac ax aw;generalize xs.take 100=X at *;generalize ps2.length=rl at *;go_wp2_with fail;refine (Uh K3).mono ?_;rintro e2 w2 ⟨v3,rfl,aL,b2⟩;have ah:=Hd (x0b (Uh ak) b2);have S2:=aL.sk;have ae:=Hd b2;clear K3 aL b2 ak;have aa:Hid (∀ W,Below w2.heap.size w2 W→Calls Tryz.prog 9 #[.pointer (some ⟨p,0,none⟩),.slice none 0 0,.int .i64 fl,.bool rtl,.bool dec] W (IntB W 0)∧Calls Tryz.prog 7 #[] W (y1U W true)):=fun W hW=>⟨(Uh HC) W (x0b (Uh ae) hW) _ [] (Sk.nil _ _) (by decide),(Uh HT) W (x0b (Uh ae) hW)⟩;rcases Nat.eq_zero_or_pos X.length with hx0 | hx0
  ·obtain ⟨xo2,af,aj,_,_⟩:=S2.shape
   subst aj;rw [hx0];have K4:=Hd ((Uh aa) w2 (Below.refl _ _)).1;clear HC HI aG aF HL HK S2 HT ae;go_wp2_with fail;refine (Uh K4).mono ?_;rintro e4 w4 ⟨rfl,b4⟩;have K5:=Hd ((Uh aa) w4 b4).2;have al:=Hd (x0b (Uh ah) b4);clear K4 b4 ah aa;go_wp2_with fail;refine (Uh K5).mono ?_;rintro e5 w5 ⟨rfl,b5⟩;have ai:=Hd (x0b (Uh al) b5);clear K5 b5 al;go_wp2;go_ret;exact ⟨rfl,Uh ai⟩
  ·have hzl:((X.length:Int)==0)=false:=by rw [beq_eq_false_iff_ne]; omega
   have K4:=Hd ((Uh HC) w2 (Uh ae) _ X S2 aK);have aC:Lb.err (Cn.of18 rs X) fl rtl dec X=Lb.chk (Cn.of18 rs X) fl rtl dec X:=(by unfold Lb.err; rw [if_neg (by omega)]);rw [aC] at K4;have aE:=Hd (Lb.y7X (o:=Cn.of18 rs X) (fl:=fl) (rtl:=rtl) (dec:=dec) (X:=X));obtain ⟨b,off,af,aj,hc1,hc2,aH⟩:=S2.place (by omega);subst aj;have aM:=Hd S2;have aq:Hid (∀ k,k<X.length→∀ W,Below w2.heap.size w2 W→W.cell? ⟨b,off+k,none⟩=some (.int .i32 (X.getD k 0))):=fun k hk W hW=>(by rw [hW.cell (x0a (aH k hk))]; exact aH k hk);have ay:Hid (∀ W,Below w2.heap.size w2 W→Calls Tryz.prog 15 #[.pointer (some ⟨p,0,none⟩),.slice (some ⟨b,off,none⟩) X.length af] W (fun e w'=>e=.returned (.tuple #[.bool (Cn.of18 rs X).nf,.int .i64 0])∧Below W.heap.size W w')):=fun W hW=>(Uh HI) W (x0b (Uh ae) hW) _ X (S2.below hW) aK;have aA:Hid (∀ W,Below w2.heap.size w2 W→∀ k,k<X.length→Calls Tryz.prog 16 #[.pointer (some ⟨p,0,none⟩),.int .i32 (X.getD k 0)] W (IntB W ((Cn.of18 rs X).st (X.getD k 0)))):=fun W hW k hk=>(Uh aG) W (x0b (Uh ae) hW) X _ (x0G S2 hk);have au:Hid (∀ W,Below w2.heap.size w2 W→Calls Tryz.prog 17 #[.pointer (some ⟨p,0,none⟩),.int .i32 (X.getD 0 0)] W (x0d W ((Cn.of18 rs X).mrk (X.getD 0 0)))):=fun W hW=>(Uh aF) W (x0b (Uh ae) hW) X _ (x0G S2 hx0)
   have az:Hid (∀ W,Below w2.heap.size w2 W→∀ k,k<X.length→Calls Tryz.prog 11 #[.slice (some ⟨b,off+k,none⟩) 1 (af - k)] W (x0d W (Lb.ldh (X.getD k 0)))):=fun W hW k hk=>by
    have h:=(S2.below hW).cut (l:=k) (h:=k+1) (m:=af) (by omega) (by omega) (by omega) (by omega)
    have e:sliced (some ⟨b,off,none⟩) k (k+1) af 1=.slice (some ⟨b,off+k,none⟩) (k+1 - k) (af - k):=by
     unfold sliced;rw [if_neg (by omega)];simp only [Option.map_some,Nat.mul_one,addr_add]
    rw [e,y2y hk,show k+1 - k=1 by omega] at h;have h2:=(Uh HL) W _ _ h (show 1≤1000 by decide);rw [show [X.getD k 0].all Lb.ldh=Lb.ldh (X.getD k 0) from Bool.and_true _] at h2;exact h2
   have ar:Hid (∀ W,Below w2.heap.size w2 W→Calls Tryz.prog 13 #[.slice (some ⟨b,off,none⟩) X.length af] W (x0d W (Lb.coded X))):=fun W hW=>(Uh HK) W _ X (S2.below hW) (by omega);clear HC S2 aC aH HI aG aF HL HK;generalize Cn.of18 rs X=o at *;generalize Lb.chk o fl rtl dec X=n at *;by_cases hn0:n=0
   ·subst hn0
    obtain ⟨c1,c2,c3,c4⟩:=(Uh aE) rfl
    have ag:Hid (∀ k,k<X.length→(X.getD k 0)≠46∧(o.st (X.getD k 0)=1∨o.st (X.getD k 0)=4)∧(Lb.flg fl 8=false∨(Lb.flg fl 8=true∧¬ X.getD k 0<128)∨(Lb.flg fl 8=true∧X.getD k 0<128∧Lb.ldh (X.getD k 0)=true))):=fun k hk=>by
     obtain ⟨d1,d2,d3⟩:=c4 (X.getD k 0) (by simp [List.getD,hk]);refine ⟨d1,?_,?_⟩
     ·unfold Lb.bst at d2
      by_cases h1:o.st (X.getD k 0)=1
      ·exact .inl h1
      ·by_cases h2:o.st (X.getD k 0)=4
       ·exact .inr h2
       ·rw [decide_eq_true h1,decide_eq_true h2] at d2; cases d2
     ·unfold Lb.std at d3
      cases e8:Lb.flg fl 8
      ·exact .inl rfl
      ·by_cases h1:X.getD k 0<128
       ·rw [e8,decide_eq_true h1] at d3
        simp at d3;exact .inr (.inr ⟨rfl,h1,d3⟩)
       ·exact .inr (.inl ⟨rfl,h1⟩)
    rw [c1] at ay;rw [c2] at ar;rw [c3] at au;clear c1 c2 c3 c4 aE aa HT;go_wp2_with fail;refine (Uh K4).mono ?_;rintro e4 w4 ⟨rfl,b4⟩;have K5:=Hd ((Uh ay) w4 b4);have ap:=Hd b4;clear K4 b4 ay;go_wp2_with fail;refine (Uh K5).mono ?_;rintro e5 w5 ⟨rfl,b5⟩;have ai:=Hd (x0b (Uh ap) b5);clear K5 b5 ap;go_wp2;go_loopw [17,18] (fun iv _ wr=>∃ k:Nat,iv=.int .i64 k∧k≤X.length∧Below w2.heap.size w2 wr) (fun iv _ _=>X.length - (intOf iv).toNat)
    case atStart=>exact ⟨0,rfl,by omega,Uh ai⟩
    case round =>
     obtain ⟨k,rfl,hk,ad⟩:=hrel;clear ai;by_cases hlt:k<X.length
     ·have hL:(k:Int)<X.length:=by omega
      have x4:=(Uh aq) k hlt wr ad;have K6:=Hd ((Uh aA) wr ad k hlt);obtain ⟨d1,d2,d3⟩:=(Uh ag) k hlt;have aJ:Hid (∀ W,Below wr.heap.size wr W→Calls Tryz.prog 11 #[.slice (some ⟨b,off+k,none⟩) 1 (af - k)] W (x0d W (Lb.ldh (X.getD k 0)))):=fun W hW=>(Uh az) W (x0b ad hW) k hlt;have an:=Hd ad;obtain ⟨f8,aI⟩:∃ f,Lb.flg fl 8=f:=⟨_,rfl⟩;have g8:(bits BinOp.and IntKind.i64 fl 8 != 0)=f8:=aI;rw [aI] at d3;have h46:(X.getD k 0==46)=false:=(by rw [beq_eq_false_iff_ne]; exact d1);clear ad aq aA az au ar ag aI d1;generalize o.st (X.getD k 0)=s at *;generalize Lb.ldh (X.getD k 0)=lz at *;generalize X.getD k 0=c at *;have hw1:IntKind.i64.wrap ((k:Int)+1)=((k+1:Nat):Int):=(by rw [IntKind.wrap_i64]; omega);go_wp2_with fail;refine (Uh K6).mono ?_;rintro e6 w6 ⟨rfl,b6⟩;have x5:w6.cell? ⟨b,off+k,none⟩=some (.int .i32 c):=(by rw [b6.cell (x0a x4)]; exact x4);have ab:=Hd (x0b (Uh an) b6);have K7:=Hd ((Uh aJ) w6 b6);clear K6 an b6 x4 aJ;rcases d2 with rfl | rfl <;> rcases d3 with rfl | ⟨rfl,h8⟩ | ⟨rfl,h8,rfl⟩
      ·go_wp2
       go_roundw
       case rel=>exact ⟨k+1,by go_num,by omega,Uh ab⟩
       case measure=>simp [intOf]; omega
      ·go_wp2
       go_roundw
       case rel=>exact ⟨k+1,by go_num,by omega,Uh ab⟩
       case measure=>simp [intOf]; omega
      ·have hk1:(k:Int)≤(k:Int)+1:=by omega
       go_wp2_with (refine (Uh K7).mono ?_; rintro e7 w7 ⟨rfl,b7⟩);have am:=Hd (x0b (Uh ab) b7);clear K7 ab b7
       go_roundw
       case rel=>exact ⟨k+1,by go_num,by omega,Uh am⟩
       case measure=>simp [intOf]; omega
      ·go_wp2
       go_roundw
       case rel=>exact ⟨k+1,by go_num,by omega,Uh ab⟩
       case measure=>simp [intOf]; omega
      ·go_wp2
       go_roundw
       case rel=>exact ⟨k+1,by go_num,by omega,Uh ab⟩
       case measure=>simp [intOf]; omega
      ·have hk1:(k:Int)≤(k:Int)+1:=by omega
       go_wp2_with (refine (Uh K7).mono ?_; rintro e7 w7 ⟨rfl,b7⟩);have am:=Hd (x0b (Uh ab) b7);clear K7 ab b7
       go_roundw
       case rel=>exact ⟨k+1,by go_num,by omega,Uh am⟩
       case measure=>simp [intOf]; omega
     ·have hL:¬ ((k:Int)<X.length):=by omega
      have K6:=Hd ((Uh ar) wr ad);have an:=Hd ad;have x0:Hid (∀ W,Below wr.heap.size wr W→W.cell? ⟨b,off,none⟩=some (.int .i32 (X.getD 0 0))∧Calls Tryz.prog 17 #[.pointer (some ⟨p,0,none⟩),.int .i32 (X.getD 0 0)] W (x0d W false)):=fun W hW=>⟨by have:=(Uh aq) 0 hx0 W (x0b ad hW); rwa [Nat.add_zero] at this,(Uh au) W (x0b ad hW)⟩;clear ad aq aA az au ar ag;generalize X.getD 0 0=c0 at *;go_wp2_with fail;refine (Uh K6).mono ?_;rintro e6 w6 ⟨rfl,b6⟩;obtain ⟨x5,k7⟩:=(Uh x0) w6 b6;have K7:=Hd k7;have ab:=Hd (x0b (Uh ah) (x0b (Uh an) b6));clear K6 an b6 x0 k7;go_wp2_with fail;refine (Uh K7).mono ?_;rintro e7 w7 ⟨rfl,b7⟩;have am:=Hd (x0b (Uh ab) b7);clear K7 ab b7;go_wp2;go_ret;exact ⟨rfl,Uh am⟩
   ·have hnb:((n:Int) != 0)=true:=by rw [bne_iff_ne]; omega
    clear ay aA au az ar HT ae aE aM aq;go_wp2_with fail;refine (Uh K4).mono ?_;rintro e4 w4 ⟨rfl,b4⟩;have K6:=Hd ((Uh aa) w4 b4).1;have al:=Hd (x0b (Uh ah) b4);have ap:=Hd b4;clear K4 b4 ah;go_wp2_with fail;refine (Uh K6).mono ?_;rintro e5 w5 ⟨rfl,b5⟩;have ai:=Hd (x0b (Uh al) b5);have K7:=Hd ((Uh aa) w5 (x0b (Uh ap) b5)).2;clear K6 b5 al aa ap;go_wp2_with fail;refine (Uh K7).mono ?_;rintro e6 w6 ⟨rfl,b6⟩;have ab:=Hd (x0b (Uh ai) b6);clear K7 b6 ai;go_wp2;go_ret;exact ⟨rfl,Uh ab⟩
end Go.Proofs.YtkglkajjofidoaaGreatDoor
