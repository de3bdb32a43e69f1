/- Lj18 Lt18 -/
import Derived.Test.YtkglkajjofidoaaGreatDoorV8
import Derived.Test.YtkglkajjofidoaaGreatDoorV5
set_option maxHeartbeats 8000000
set_option maxRecDepth 100000
namespace Go.Proofs.YtkglkajjofidoaaGreatDoor
open Go.Proofs.Tryz
open Go.RowKit
open Ti
namespace Cn
theorem lb1:Lb.err (of18 x1O [97,98,45,45,99]) 47 false false [97,98,45,45,99]=8:=by decide +kernel
theorem lb2:Lb.err (of18 x1O [120,110,45,45,97]) 0 false false [120,110,45,45,97]=16:=by decide +kernel
theorem lb3:Lb.err (of18 x1O [97,768]) 0 false false [97,768]=4:=by decide +kernel
end Cn
theorem y2y (aa:y2L) (aQ:y7V) (ar:y2O) (aP:y2M):x8V:=by
 intro w hg;have K1:=O (y1T w);have HG:=O hg;clear hg;go_enter func7,ntmps7;go_wp2_with fail;refine (V K1).mono ?_;rintro e1 w1 ⟨v1,ps1,rfl,p1,r1,b1⟩;have R1:=x7d r1 p1 (by decide) z1K;have K2:=O (y0G _ _ w1 ((V HG).on b1) R1);rw [Cn.z1L] at K2;obtain ⟨a1,cp1,hv1,_,hcp1⟩:=R1.shape;subst hv1;have aU:=O b1;clear K1 R1 r1 b1 p1;go_wp2_with fail;refine (V K2).mono ?_;rintro e2 w2 ⟨b2,h2⟩;have aV:=O (x0b (V aU) b2);clear K2 b2 aU;rcases h2 with ⟨hne,_⟩ | ⟨hck,p,v2,ps2,rfl,hD,r2,p2⟩
 ·exact absurd (by rw [Cn.x7W]) hne
 ·obtain ⟨a2,cp2,hv2⟩:∃ a c,v2=.slice a ps2.length c:=by
   rcases r2.1.2 with ⟨h,h0⟩ | ⟨g,cap,cur,e,_⟩
   ·exact ⟨none,0,by rw [h,h0]⟩
   ·exact ⟨_,_,e⟩
  subst hv2;have a5:=O hD;have az:=O hck;clear r2 p2 hD hck;generalize ps2.length=pl at *;have K3:=O (x5p ⟨#[97,98,45,45,99]⟩ (by decide) w2);rw [show nums ⟨#[97,98,45,45,99]⟩=[97,98,45,45,99] from rfl] at K3;go_wp2_with fail;refine (V K3).mono ?_;rintro e3 w3 ⟨v3,rfl,aS,b3⟩;have aw:=O (x0b (V aV) b3);have aA:=O ((V a5).below b3);have ba:=O aS.sk;obtain ⟨xo3,xc3,hx3,_,_⟩:=aS.sk.shape;subst hx3;clear K3 aV a5 aS b3;have K4:=O (aa _ p Cn.x1O w3 _ [97,98,45,45,99] 47 false false ((V HG).on (V aw)) (V aA) (V az) (V ba) (by decide));rw [Cn.lb1] at K4;go_wp2_with fail;refine (V K4).mono ?_;rintro e4 w4 ⟨rfl,b4⟩;have aW:=O (x0b (V aw) b4);have a6:=O ((V aA).below b4);clear K4 aw aA b4;clear ba;have K5:=O (x5p ⟨#[120,110,45,45,97]⟩ (by decide) w4);rw [show nums ⟨#[120,110,45,45,97]⟩=[120,110,45,45,97] from rfl] at K5;go_wp2_with fail;refine (V K5).mono ?_;rintro e5 w5 ⟨v5,rfl,aT,b5⟩;have ax:=O (x0b (V aW) b5);have aB:=O ((V a6).below b5);have bb:=O aT.sk;obtain ⟨xo5,xc5,hx5,_,_⟩:=aT.sk.shape;subst hx5;clear K5 aW a6 aT b5;have K6:=O (aa _ p Cn.x1O w5 _ [120,110,45,45,97] 0 false false ((V HG).on (V ax)) (V aB) (V az) (V bb) (by decide));rw [Cn.lb2] at K6;go_wp2_with fail;refine (V K6).mono ?_;rintro e6 w6 ⟨rfl,b6⟩;have aX:=O (x0b (V ax) b6);have a7:=O ((V aB).below b6);clear K6 ax aB b6;clear bb;obtain ⟨w7,aR⟩:∃ W,w6.alloc (.cells #[.int .i32 97,.int .i32 768] 21)=W:=⟨_,rfl⟩;have b7:Bw w6 w7:=(by rw [<- aR]; exact (b0r).alloc (l0r _) _);have bd:Sk .i32 w7 (.slice (some ⟨w6.heap.size,0,none⟩) 2 2) [97,768]:=(by rw [<- aR]; exact z1H w6 [97,768] 2 rfl (by omega) (by omega) _ rfl (by simp));have ay:=O (x0b (V aX) b7);have aC:=O ((V a7).below b7);have bc:=O bd;clear aX a7 b7 bd;have K8:=O (aa _ p Cn.x1O w7 _ [97,768] 0 false false ((V HG).on (V ay)) (V aC) (V az) (V bc) (by decide));rw [Cn.lb3] at K8;go_wp2_with fail;refine (V K8).mono ?_;rintro e8 w8 ⟨rfl,b8⟩;have aY:=O (x0b (V ay) b8);have a8:=O ((V aC).below b8);clear K8 ay aC b8;clear bc aR;have K9:=O (aQ w8 0 false false);go_wp2_with fail;refine (V K9).mono ?_;rintro e9 w9 ⟨rfl,b9⟩;have aZ:=O (x0b (V aY) b9);have a9:=O ((V a8).below b9);clear K9 aY a8 b9;have aD:=O (x5p ⟨#[97,45,57]⟩ (by decide) w9);rw [show nums ⟨#[97,45,57]⟩=[97,45,57] from rfl] at aD;go_wp2_with fail;refine (V aD).mono ?_;rintro e10 be ⟨v10,rfl,ab,aJ⟩;have ae:=O (x0b (V aZ) aJ);have aj:=O ((V a9).below aJ);have ao:=O ab.sk;obtain ⟨xo10,xc10,hx10,_,_⟩:=ab.sk.shape;subst hx10;clear aD aZ a9 ab aJ;have aE:=O (ar be _ [97,45,57] (V ao) (by decide));rw [show ([97,45,57]:List Int).all Lb.ldh=true by decide] at aE;go_wp2_with fail;refine (V aE).mono ?_;rintro e11 bf ⟨rfl,aK⟩;have af:=O (x0b (V ae) aK);have ak:=O ((V aj).below aK);clear aE ae aj aK;clear ao;have aF:=O (x5p ⟨#[65]⟩ (by decide) bf);rw [show nums ⟨#[65]⟩=[65] from rfl] at aF;go_wp2_with fail;refine (V aF).mono ?_;rintro e12 bg ⟨v12,rfl,ac,aL⟩;have ag:=O (x0b (V af) aL);have al:=O ((V ak).below aL);have ap:=O ac.sk;obtain ⟨xo12,xc12,hx12,_,_⟩:=ac.sk.shape;subst hx12;clear aF af ak ac aL;have aG:=O (ar bg _ [65] (V ap) (by decide));rw [show ([65]:List Int).all Lb.ldh=false by decide] at aG;go_wp2_with fail;refine (V aG).mono ?_;rintro e13 bh ⟨rfl,aM⟩;have ah:=O (x0b (V ag) aM);have am:=O ((V al).below aM);clear aG ag al aM;clear ap;have aH:=O (x5p ⟨#[120,110,45,45]⟩ (by decide) bh);rw [show nums ⟨#[120,110,45,45]⟩=[120,110,45,45] from rfl] at aH;go_wp2_with fail;refine (V aH).mono ?_;rintro e14 bi ⟨v14,rfl,ad,aN⟩;have ai:=O (x0b (V ah) aN);have an:=O ((V am).below aN);have aq:=O ad.sk;obtain ⟨xo14,xc14,hx14,_,_⟩:=ad.sk.shape;subst hx14;clear aH ah am ad aN;have aI:=O (aP bi _ [120,110,45,45] (V aq) (by decide));rw [show Lb.coded [120,110,45,45]=true by decide] at aI;go_wp2_with fail;refine (V aI).mono ?_;rintro e15 w15 ⟨rfl,aO⟩;have av:=O (x0b (V ai) aO);have HD15:=O ((V an).below aO);clear aI ai an aO;clear aq;go_wp2;go_ret;exact ⟨rfl,V av⟩
open Ti
theorem plb18 {B p:Nat} {rs:List Rec} {w:World} (hg:Glob w) (hD:x0p w B p rs) (hk:(Cn.check rs).2=0) {xv:Value} {X:List Int} (hx:Sk .i32 w xv X) (au:X.length<=1000):PLbC p xv X (Cn.of18 rs X) w:=by
 have h6:=x1L hk;refine ⟨fun W hW=>isP18 (hg.on hW) (hD.below hW) hk (hx.below hW) au,fun c hc W hW=>?_,fun c hc W hW=>?_,⟨_,rfl,fun W hW=>?_⟩,⟨_,rfl,fun W hW=>?_⟩⟩
 ·exact (y4u c W (hD.below hW) h6 hc).mono fun _ _ h=>⟨h.1,x0k h.2⟩
 ·exact (x9Q c W (hD.below hW) h6 hc).mono fun _ _ h=>⟨h.1,x0k h.2⟩
 ·exact x9a (y6r (hD.below hW) h6) (y9L (hD.below hW) h6) (hx.below hW)
 ·exact z2j (pbd17 (hD.below hW) h6) (hx.below hW)
theorem chkC:y2L:=fun _ _ _ _ _ _ fl rtl dec hg hD hk hx au=>z1b (plb18 hg hD hk hx au) hx au fl rtl dec
theorem chkN:y7V:=fun w fl rtl dec=>by
 go_enter func9,ntmps9;go_wp2;go_ret;exact ⟨rfl,b0r⟩
theorem ldhC:y2O:=fun _ _ _ hx _=>z1G hx
theorem codC:y2M:=fun _ _ _ hx _=>y8c hx
theorem toldC:x8V:=y2y chkC chkN ldhC codC
