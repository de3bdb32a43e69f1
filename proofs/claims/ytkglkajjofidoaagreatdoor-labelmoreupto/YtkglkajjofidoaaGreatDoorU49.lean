/- Lj18 Lt18 -/
import Derived.Test.YtkglkajjofidoaaGreatDoorU8
import Derived.Test.YtkglkajjofidoaaGreatDoorU5
set_option maxHeartbeats 8000000
set_option maxRecDepth 100000
namespace Go.Proofs.YtkglkajjofidoaaGreatDoor
open Go.RowKit
open Ti
namespace Cn
theorem lb1:Lb.err (of18 x1C [97,98,45,45,99]) 47 false false [97,98,45,45,99]=8:=by decide +kernel
theorem lb2:Lb.err (of18 x1C [120,110,45,45,97]) 0 false false [120,110,45,45,97]=16:=by decide +kernel
theorem lb3:Lb.err (of18 x1C [97,768]) 0 false false [97,768]=4:=by decide +kernel
end Cn
theorem y1B (aa:x9o) (aQ:y6Q) (ar:y1Q) (aP:y1N):x5Z:=by
 intro w hg;have K1:=Hd (y0Z w);have HG:=Hd hg;clear hg;go_enter Tryz.func7,Tryz.ntmps7;go_wp2_with fail;refine (Uh K1).mono ?_;rintro e1 w1 ⟨v1,ps1,rfl,p1,r1,b1⟩;have R1:=x8X r1 p1 (by decide) z0v;have K2:=Hd (x6B _ _ w1 ((Uh HG).on b1) R1);rw [Cn.z0w] at K2;obtain ⟨a1,cp1,hv1,_,hcp1⟩:=R1.shape;subst hv1;have aU:=Hd b1;clear K1 R1 r1 b1 p1;go_wp2_with fail;refine (Uh K2).mono ?_;rintro e2 w2 ⟨b2,h2⟩;have aV:=Hd (x0b (Uh aU) b2);clear K2 b2 aU;rcases h2 with ⟨hne,_⟩ | ⟨hck,p,v2,ps2,rfl,hD,r2,p2⟩
 ·exact absurd (by rw [Cn.x7B]) hne
 ·obtain ⟨a2,cp2,hv2⟩:∃ a c,v2=.slice a ps2.length c:=by
   rcases r2.1.2 with ⟨h,h0⟩ | ⟨g,cap,cur,e,_⟩
   ·exact ⟨none,0,by rw [h,h0]⟩
   ·exact ⟨_,_,e⟩
  subst hv2;have a5:=Hd hD;have az:=Hd hck;clear r2 p2 hD hck;generalize ps2.length=pl at *;have K3:=Hd (x5c ⟨#[97,98,45,45,99]⟩ (by decide) w2);rw [show nums ⟨#[97,98,45,45,99]⟩=[97,98,45,45,99] from rfl] at K3;go_wp2_with fail;refine (Uh K3).mono ?_;rintro e3 w3 ⟨v3,rfl,aS,b3⟩;have aw:=Hd (x0b (Uh aV) b3);have aA:=Hd ((Uh a5).below b3);have ba:=Hd aS.sk;obtain ⟨xo3,xc3,hx3,_,_⟩:=aS.sk.shape;subst hx3;clear K3 aV a5 aS b3;have K4:=Hd (aa _ p Cn.x1C w3 _ [97,98,45,45,99] 47 false false ((Uh HG).on (Uh aw)) (Uh aA) (Uh az) (Uh ba) (by decide));rw [Cn.lb1] at K4;go_wp2_with fail;refine (Uh K4).mono ?_;rintro e4 w4 ⟨rfl,b4⟩;have aW:=Hd (x0b (Uh aw) b4);have a6:=Hd ((Uh aA).below b4);clear K4 aw aA b4;clear ba;have K5:=Hd (x5c ⟨#[120,110,45,45,97]⟩ (by decide) w4);rw [show nums ⟨#[120,110,45,45,97]⟩=[120,110,45,45,97] from rfl] at K5;go_wp2_with fail;refine (Uh K5).mono ?_;rintro e5 w5 ⟨v5,rfl,aT,b5⟩;have ax:=Hd (x0b (Uh aW) b5);have aB:=Hd ((Uh a6).below b5);have bb:=Hd aT.sk;obtain ⟨xo5,xc5,hx5,_,_⟩:=aT.sk.shape;subst hx5;clear K5 aW a6 aT b5;have K6:=Hd (aa _ p Cn.x1C w5 _ [120,110,45,45,97] 0 false false ((Uh HG).on (Uh ax)) (Uh aB) (Uh az) (Uh bb) (by decide));rw [Cn.lb2] at K6;go_wp2_with fail;refine (Uh K6).mono ?_;rintro e6 w6 ⟨rfl,b6⟩;have aX:=Hd (x0b (Uh ax) b6);have a7:=Hd ((Uh aB).below b6);clear K6 ax aB b6;clear bb;obtain ⟨w7,aR⟩:∃ W,w6.alloc (.cells #[.int .i32 97,.int .i32 768] 21)=W:=⟨_,rfl⟩;have b7:Below w6.heap.size w6 w7:=(by rw [← aR]; exact (Below.refl _ _).alloc (Nat.le_refl _) _);have bd:Sk .i32 w7 (.slice (some ⟨w6.heap.size,0,none⟩) 2 2) [97,768]:=(by rw [← aR]; exact z0r w6 [97,768] 2 rfl (by omega) (by omega) _ rfl (by simp));have ay:=Hd (x0b (Uh aX) b7);have aC:=Hd ((Uh a7).below b7);have bc:=Hd bd;clear aX a7 b7 bd;have K8:=Hd (aa _ p Cn.x1C w7 _ [97,768] 0 false false ((Uh HG).on (Uh ay)) (Uh aC) (Uh az) (Uh bc) (by decide));rw [Cn.lb3] at K8;go_wp2_with fail;refine (Uh K8).mono ?_;rintro e8 w8 ⟨rfl,b8⟩;have aY:=Hd (x0b (Uh ay) b8);have a8:=Hd ((Uh aC).below b8);clear K8 ay aC b8;clear bc aR;have K9:=Hd (aQ w8 0 false false);go_wp2_with fail;refine (Uh K9).mono ?_;rintro e9 w9 ⟨rfl,b9⟩;have aZ:=Hd (x0b (Uh aY) b9);have a9:=Hd ((Uh a8).below b9);clear K9 aY a8 b9;have aD:=Hd (x5c ⟨#[97,45,57]⟩ (by decide) w9);rw [show nums ⟨#[97,45,57]⟩=[97,45,57] from rfl] at aD;go_wp2_with fail;refine (Uh aD).mono ?_;rintro e10 be ⟨v10,rfl,ab,aJ⟩;have ae:=Hd (x0b (Uh aZ) aJ);have aj:=Hd ((Uh a9).below aJ);have ao:=Hd ab.sk;obtain ⟨xo10,xc10,hx10,_,_⟩:=ab.sk.shape;subst hx10;clear aD aZ a9 ab aJ;have aE:=Hd (ar be _ [97,45,57] (Uh ao) (by decide));rw [show ([97,45,57]:List Int).all Lb.ldh=true by decide] at aE;go_wp2_with fail;refine (Uh aE).mono ?_;rintro e11 bf ⟨rfl,aK⟩;have af:=Hd (x0b (Uh ae) aK);have ak:=Hd ((Uh aj).below aK);clear aE ae aj aK;clear ao;have aF:=Hd (x5c ⟨#[65]⟩ (by decide) bf);rw [show nums ⟨#[65]⟩=[65] from rfl] at aF;go_wp2_with fail;refine (Uh aF).mono ?_;rintro e12 bg ⟨v12,rfl,ac,aL⟩;have ag:=Hd (x0b (Uh af) aL);have al:=Hd ((Uh ak).below aL);have ap:=Hd ac.sk;obtain ⟨xo12,xc12,hx12,_,_⟩:=ac.sk.shape;subst hx12;clear aF af ak ac aL;have aG:=Hd (ar bg _ [65] (Uh ap) (by decide));rw [show ([65]:List Int).all Lb.ldh=false by decide] at aG;go_wp2_with fail;refine (Uh aG).mono ?_;rintro e13 bh ⟨rfl,aM⟩;have ah:=Hd (x0b (Uh ag) aM);have am:=Hd ((Uh al).below aM);clear aG ag al aM;clear ap;have aH:=Hd (x5c ⟨#[120,110,45,45]⟩ (by decide) bh);rw [show nums ⟨#[120,110,45,45]⟩=[120,110,45,45] from rfl] at aH;go_wp2_with fail;refine (Uh aH).mono ?_;rintro e14 bi ⟨v14,rfl,ad,aN⟩;have ai:=Hd (x0b (Uh ah) aN);have an:=Hd ((Uh am).below aN);have aq:=Hd ad.sk;obtain ⟨xo14,xc14,hx14,_,_⟩:=ad.sk.shape;subst hx14;clear aH ah am ad aN;have aI:=Hd (aP bi _ [120,110,45,45] (Uh aq) (by decide));rw [show Lb.coded [120,110,45,45]=true by decide] at aI;go_wp2_with fail;refine (Uh aI).mono ?_;rintro e15 w15 ⟨rfl,aO⟩;have av:=Hd (x0b (Uh ai) aO);have HD15:=Hd ((Uh an).below aO);clear aI ai an aO;clear aq;go_wp2;go_ret;exact ⟨rfl,Uh av⟩
open Ti
theorem plb18 {B p:Nat} {rs:List Rec} {w:World} (hg:Glob w) (hD:x0o w B p rs) (hk:(Cn.check rs).2=0) {xv:Value} {X:List Int} (hx:Sk .i32 w xv X) (au:X.length≤1000):PLbC p xv X (Cn.of18 rs X) w:=by
 have h6:=x2O hk;refine ⟨fun W hW=>z0p (hg.on hW) (hD.below hW) hk (hx.below hW) au,fun c hc W hW=>?_,fun c hc W hW=>?_,⟨_,rfl,fun W hW=>?_⟩,⟨_,rfl,fun W hW=>?_⟩⟩
 ·exact (x7E c W (hD.below hW) h6 hc).mono fun _ _ h=>⟨h.1,x0l h.2⟩
 ·exact (x5e c W (hD.below hW) h6 hc).mono fun _ _ h=>⟨h.1,x0l h.2⟩
 ·exact x8v (y5u (hD.below hW) h6) (y8z (hD.below hW) h6) (hx.below hW)
 ·exact z0X (pbd17 (hD.below hW) h6) (hx.below hW)
theorem chkC:x9o:=fun _ _ _ _ _ _ fl rtl dec hg hD hk hx au=>y9G (plb18 hg hD hk hx au) hx au fl rtl dec
theorem chkN:y6Q:=fun w fl rtl dec=>by
 go_enter Tryz.func9,Tryz.ntmps9;go_wp2;go_ret;exact ⟨rfl,Below.refl _ _⟩
theorem ldhC:y1Q:=fun _ _ _ hx _=>z0q hx
theorem codC:y1N:=fun _ _ _ hx _=>y6Y hx
theorem toldC:x5Z:=y1B chkC chkN ldhC codC
end Go.Proofs.YtkglkajjofidoaaGreatDoor
