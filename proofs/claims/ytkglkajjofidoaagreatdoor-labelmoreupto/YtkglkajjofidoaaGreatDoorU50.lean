/- Lh18 -/
import Derived.Test.YtkglkajjofidoaaGreatDoorU8
import Derived.Deep.DeepCutAuto
import Derived.Deep.CutBlock
set_option maxHeartbeats 8000000
set_option maxRecDepth 20000
namespace Go.Proofs.YtkglkajjofidoaaGreatDoor
open Go.RowKit
open Ti
namespace Lb
theorem and63 (fl:Int):∃ f:Nat,f<64∧bits .and .i64 fl 63=(f:Int):=by
 refine ⟨(BitVec.ofInt 64 fl &&& BitVec.ofInt 64 63).toNat,?_,?_⟩
 ·rw [BitVec.toNat_and]
  exact Nat.lt_of_le_of_lt Nat.and_le_right (by decide)
 ·have h:(BitVec.ofInt 64 fl &&& BitVec.ofInt 64 63).toNat<64:=by
   rw [BitVec.toNat_and];exact Nat.lt_of_le_of_lt Nat.and_le_right (by decide)
  show IntKind.i64.wrap (((BitVec.ofInt 64 fl &&& BitVec.ofInt 64 63).toNat:Nat):Int)=_;generalize (BitVec.ofInt 64 fl &&& BitVec.ofInt 64 63).toNat=n at *;simp only [IntKind.wrap,IntKind.bits,IntKind.signed];simp;omega
theorem and7 (fl:Int):∃ f:Nat,f<8∧bits .and .i64 fl 7=(f:Int):=by
 refine ⟨(BitVec.ofInt 64 fl &&& BitVec.ofInt 64 7).toNat,?_,?_⟩
 ·rw [BitVec.toNat_and]
  exact Nat.lt_of_le_of_lt Nat.and_le_right (by decide)
 ·have h:(BitVec.ofInt 64 fl &&& BitVec.ofInt 64 7).toNat<8:=by
   rw [BitVec.toNat_and];exact Nat.lt_of_le_of_lt Nat.and_le_right (by decide)
  show IntKind.i64.wrap (((BitVec.ofInt 64 fl &&& BitVec.ofInt 64 7).toNat:Nat):Int)=_;generalize (BitVec.ofInt 64 fl &&& BitVec.ofInt 64 7).toNat=n at *;simp only [IntKind.wrap,IntKind.bits,IntKind.signed];simp;omega
abbrev Up (f g:Int):Prop:=(flg f 1=true→flg g 1=true)∧(flg f 2=true→flg g 2=true)∧(flg f 4=true→flg g 4=true)∧(flg f 8=true→flg g 8=true)∧(flg f 16=true→flg g 16=true)
theorem z1r:∀ f:Fin 64,∀ s:Fin 6,Up ((f.val:Nat):Int) (bits .or .i64 ((f.val:Nat):Int) (if s.val=4 then 0 else ((2 ^ s.val:Nat):Int)))∧(s.val≠0→flg ((f.val:Nat):Int) 1=flg (bits .or .i64 ((f.val:Nat):Int) (if s.val=4 then 0 else ((2 ^ s.val:Nat):Int))) 1):=by decide +kernel
theorem z0z {o:Of} {X:List Int} {rtl:Bool} (f:Nat) (hf:f<64) (s:Nat) (hs:s<6):bits .andNot .i64 (bits .andNot .i64 ((err o f rtl false X:Nat):Int) ((err o (bits .or .i64 f (if s=4 then 0 else ((2 ^ s:Nat):Int))) rtl false X:Nat):Int)) 16=0∧(s≠0→bits .andNot .i64 ((err o f rtl false X:Nat):Int) ((err o (bits .or .i64 f (if s=4 then 0 else ((2 ^ s:Nat):Int))) rtl false X:Nat):Int)=0):=by
 obtain ⟨⟨h1,h2,h4,h8,h16⟩,he⟩:=z1r ⟨f,hf⟩ ⟨s,hs⟩;have:=y3z (o:=o) (X:=X) (rtl:=rtl) (rtl':=rtl) (dec:=false) (dec':=false) h1 h2 h4 h8 (fun h=>by simpa using h16 (by simpa using h)) id;exact ⟨this.1,fun h0=>this.2 (he h0)⟩
theorem rtl18 {o:Of} {X:List Int} {rtl:Bool} (f:Int):bits .andNot .i64 ((err o f rtl false X:Nat):Int) ((err o f true false X:Nat):Int)=0:=(y3z (dec:=false) (dec':=false) id id id id id (fun _=>rfl)).2 rfl
theorem dec18 {o:Of} {X:List Int} {rtl:Bool} (f:Int):bits .andNot .i64 ((err o f rtl true X:Nat):Int) ((err o f rtl false X:Nat):Int)=0:=(y3z (dec:=true) (dec':=false) id id id id (fun h=>by simp at h) id).2 rfl
end Lb
theorem more_law18 (am:x9o) (ae:x5Z) (v:Value) (aj:List Rec) (xv:Value) (xs:List Int) (fl mo:Int) (rtl:Bool) (w:World) (hg:Glob w) (hv:Rcs w v aj) (hx:Sk .i32 w xv xs):Calls Tryz.prog 4 #[v,xv,.int .i64 fl,.int .i64 mo,.bool rtl] w (y1U w true):=by
 have K1:=Hd (x6B v aj w hg hv);obtain ⟨f,hf,an⟩:=Lb.and63 fl;obtain ⟨g,az,ay⟩:=Lb.and7 mo;obtain ⟨ao,cap,rfl,_,hcap⟩:=hv.shape;have HX:=Hd hx;obtain ⟨xo,xcap,aC,hxc1,hxc2⟩:=hx.shape;subst aC;have HG:=Hd hg;clear hg hv hx;generalize aj.take 150=rs at *;generalize aj.length=L at *;go_enter Tryz.func4,Tryz.ntmps4;go_wp2_with fail;refine (Uh K1).mono ?_;rintro e1 w1 ⟨b1,h1⟩;have ab:=Hd b1;clear K1 b1;rcases h1 with ⟨hne,rfl⟩ | ⟨h0,p,v2,ps2,rfl,hD,r2,p2⟩
 ·have K2:=Hd (ae w1 ((Uh HG).on (Uh ab)))
  clear hne;go_wp2_with fail;refine (Uh K2).mono ?_;rintro e2 w2 ⟨rfl,b2⟩;have aa:=Hd (x0b (Uh ab) b2);clear K2 b2;go_wp2;go_ret;exact ⟨rfl,Uh aa⟩
 ·obtain ⟨a2,cp2,hv2⟩:∃ a c,v2=.slice a ps2.length c:=by
   rcases r2.1.2 with ⟨h,h0⟩ | ⟨g,cap,cur,e,_⟩
   ·exact ⟨none,0,by rw [h,h0]⟩
   ·exact ⟨_,_,e⟩
  subst hv2;have au:=(Uh HG).on (Uh ab);have ax:(xs.take 100).length≤100:=List.length_take_le _ _;have K3:=Hd (x7o _ xs 100 w1 ((Uh HX).below (Uh ab)) (by omega));have HC:Hid (∀ W,Below w1.heap.size w1 W→∀ yv Y (fl:Int) (rtl dec:Bool),Sk .i32 W yv Y→Y.length≤100→Calls Tryz.prog 9 #[.pointer (some ⟨p,0,none⟩),yv,.int .i64 fl,.bool rtl,.bool dec] W (IntB W ((Lb.err (Cn.of18 rs Y) fl rtl dec Y:Nat):Int))):=fun W hW yv Y fl rtl dec hY hl=>am _ p rs W yv Y fl rtl dec (au.on hW) (hD.below hW) h0 hY (by omega);clear hD r2 h0 HX HG p2 au;generalize xs.take 100=X at *;generalize ps2.length=rl at *;generalize Cn.of18 rs=ofr at *;go_wp2_with fail;refine (Uh K3).mono ?_;rintro e2 w2 ⟨v3,rfl,av,b2⟩;have aa:=Hd (x0b (Uh ab) b2);have S2:=av.sk;obtain ⟨xo2,xc2,aq,_,_⟩:=S2.shape;subst aq;have ad:=Hd S2;have ac:=Hd b2;clear K3 av b2 ab S2;go_upto_region 6 with fail;go_cut [3] (fun mv wx=>(∃ s:Nat,s<6∧mv=.int .i64 ((2 ^ s:Nat):Int))∧wx=w2)
  case first =>
   have aA:g=0∨g=1∨g=2∨g=3∨g=4∨g=5∨g=6∨g=7:=(by omega);clear HC aa ad ac an;rcases aA with rfl | rfl | rfl | rfl | rfl | rfl | rfl | rfl
   all_goals
    go_wp2
    go_meet
    case rel =>
     first
      | exact ⟨⟨0,by decide,rfl⟩,rfl⟩
      | exact ⟨⟨1,by decide,rfl⟩,rfl⟩
      | exact ⟨⟨2,by decide,rfl⟩,rfl⟩
      | exact ⟨⟨3,by decide,rfl⟩,rfl⟩
      | exact ⟨⟨4,by decide,rfl⟩,rfl⟩
      | exact ⟨⟨5,by decide,rfl⟩,rfl⟩
  case rest =>
   obtain ⟨⟨s,aB,rfl⟩,af⟩:=hcut;rw [← af] at aa ad ac;clear af ay az;obtain ⟨sv,ai⟩:∃ sv:Int,(if s=4 then 0 else ((2 ^ s:Nat):Int))=sv:=⟨_,rfl⟩;have HM:=Hd (Lb.z0z (o:=ofr X) (X:=X) (rtl:=rtl) f hf s aB);rw [ai] at HM;have ah:=Hd (Lb.rtl18 (o:=ofr X) (X:=X) (rtl:=rtl) f);have ag:=Hd (Lb.dec18 (o:=ofr X) (X:=X) (rtl:=rtl) f)
   have HV:Hid ((s=0→sv=1)∧(s≠0→(sv==1)=false)):=by
    have:s=0∨s=1∨s=2∨s=3∨s=4∨s=5:=(by omega);subst ai;rcases this with rfl | rfl | rfl | rfl | rfl | rfl <;> exact ⟨by decide,by decide⟩
   have aw:=Hd (Eq.refl wc);go_upto_if 43 with fail;obtain ⟨wd,ap⟩:∃ wd,wd=wc:=⟨_,rfl⟩;go_cut [3] (fun mv wx=>mv=.int .i64 sv∧wx=wd)
   case first =>
    clear HM ah ag HV HC aa ad ac;have:s=0∨s=1∨s=2∨s=3∨s=4∨s=5:=(by omega);rcases this with rfl | rfl | rfl | rfl | rfl | rfl
    all_goals
     subst ai;go_wp2
     go_meet
     case rel=>exact ⟨rfl,ap.symm⟩
   case rest =>
    obtain ⟨rfl,af⟩:=hcut;rw [← ap,← af] at aa ad ac;clear af ap aw ai;have HS:=Hd (fun W hW=>(Uh ad).below (w':=W) hW);have HA:=Hd (fun W hW (fl:Int) (rt dc:Bool)=>(Uh HC) W (x0b (Uh ac) hW) _ X fl rt dc ((Uh HS) W hW) ax);have K4:=Hd ((Uh HA) _ (Below.refl _ _) f rtl false);generalize hA:Lb.err (ofr X) f rtl false X=A at *;clear hA;go_wp2_with fail;refine (Uh K4).mono ?_;rintro e4 w4 ⟨rfl,b4⟩;have ar:=Hd b4;have K5:=Hd ((Uh HA) _ b4 (bits .or .i64 f sv) rtl false);generalize hB:Lb.err (ofr X) (bits .or .i64 f sv) rtl false X=Bv at *;clear hB b4 K4;go_wp2_with fail;refine (Uh K5).mono ?_;rintro e5 w5 ⟨rfl,b5⟩;have ak:=Hd (x0b (Uh ar) b5);have K6:=Hd ((Uh HA) _ (Uh ak) f true false);generalize hC:Lb.err (ofr X) f true false X=Cv at *;clear hC b5 K5 ar;go_wp2_with fail;refine (Uh K6).mono ?_;rintro e6 w6 ⟨rfl,b6⟩;have al:=Hd (x0b (Uh ak) b6);have K7:=Hd ((Uh HA) _ (Uh al) f rtl true);generalize hE:Lb.err (ofr X) f rtl true X=Ev at *;clear hE b6 K6 ak;go_wp2_with fail;refine (Uh K7).mono ?_;rintro e7 w7 ⟨rfl,b7⟩;have HF:=Hd (x0b (Uh aa) (x0b (Uh al) b7));clear K7 b7 al HA HC HS aa ad ac;have hrt:=Uh ah;have hde:=Uh ag;by_cases hs0:s=0
    ·obtain rfl:=(Uh HV).1 hs0
     have hm:=(Uh HM).1;clear HM HV ah ag;go_wp2;go_ret;exact ⟨rfl,Uh HF⟩
    ·have hs1:=(Uh HV).2 hs0
     have hm:=(Uh HM).2 hs0;clear HM HV ah ag;go_wp2;go_ret;exact ⟨rfl,Uh HF⟩
end Go.Proofs.YtkglkajjofidoaaGreatDoor
