/- Vq9 Vr9 Vs9 -/
import Derived.Test.YtkglkajjofidoaaGreatDoorV42
set_option maxHeartbeats 8000000
set_option maxRecDepth 8000
namespace Go.Proofs.YtkglkajjofidoaaGreatDoor
open Go.Proofs.Tryz
open Go.RowKit
open Ti
namespace Cn
theorem y0W {rs:List Rec} (h6:(check6 rs).2=0) {k:Nat} (hk:k<rs.length) (h7:(rs.getD k none).kind=7):(rs.getD k none).to.length=2/\scalar ((rs.getD k none).lo)=true:=by
 have hm:rs.getD k none∈rs:=(by simp [List.getD,hk]);obtain ⟨_,d2,d3⟩:=x0B ((x0n.1 h6).2.1 _ hm) h7;unfold list at d3;have:=o0d (Bool.and_eq_true_iff.1 d3).1;exact ⟨by omega,d2⟩
end Cn
namespace Cn
theorem z0e {rs:List Rec} (h:(check rs).2=0) {a b:Int} {k:Nat} (hk:k<rs.length) (h7:(rs.getD k none).kind=7) (ha:(rs.getD k none).to.getD 0 0=a) (hb:(rs.getD k none).to.getD 1 0=b):x0S rs a b=some (rs.getD k none).lo:=by
 obtain ⟨_,_,hp,_⟩:=x0D.1 h;have hg:rs.getD k none=rs[k]:=(by simp [List.getD,hk]);unfold x0S
 cases hf:rs.reverse.find? (isP a b) with
 | none =>
  have:=List.find?_eq_none.1 hf (rs.getD k none) (List.mem_reverse.2 (by rw [hg]; exact List.getElem_mem hk));exact absurd (d0t ⟨h7,ha,hb⟩) this
 | some r =>
  have hm:=List.mem_reverse.1 (List.mem_of_find?_eq_some hf);have aD:isP a b r=true:=List.find?_some hf;have hi:r.kind=7/\r.to.getD 0 0=a/\r.to.getD 1 0=b:=o0d aD;obtain ⟨j,hj,rfl⟩:=List.getElem_of_mem hm;rw [hg] at h7 ha hb ⊢;rw [List.pairwise_iff_getElem] at hp;rcases Nat.lt_trichotomy j k with hl | hl | hl
  ·exact absurd (show x5q rs[j] rs[k] from ⟨hi.1,h7,by rw [hi.2.1,ha],by rw [hi.2.2,hb]⟩) (hp j k hj hk hl)
  ·subst hl; rfl
  ·exact absurd (show x5q rs[k] rs[j] from ⟨h7,hi.1,by rw [hi.2.1,ha],by rw [hi.2.2,hb]⟩) (hp k j hk hj hl)
theorem z0g {rs:List Rec} {a b:Int} (h:∀ j,j<rs.length->¬ ((rs.getD j none).kind=7/\(rs.getD j none).to.getD 0 0=a/\(rs.getD j none).to.getD 1 0=b)):x0S rs a b=Option.none:=by
 unfold x0S;rw [List.find?_eq_none.2 (fun r hr=>?_)]
 ·rfl
 ·obtain ⟨j,hj,rfl⟩:=List.getElem_of_mem (List.mem_reverse.1 hr);have:=h j hj;rw [show rs.getD j none=rs[j] by simp [List.getD,hj]] at this;intro e;exact this (o0d e)
end Cn
open Ti
def CmpR (rs:List Rec) (a b:Int) (w:World) (e:Ending) (w':World):Prop:=e=.returned (.tuple #[.int .i32 (Cn.cmp9 rs a b).1,.bool (Cn.cmp9 rs a b).2])/\w'=w
theorem CmpR.of {rs:List Rec} {a b p:Int} {o:Bool} {w:World} (h:Cn.cmp9 rs a b=(p,o)):CmpR rs a b w (.returned (.tuple #[.int .i32 p,.bool o])) w:=by
 unfold CmpR; rw [h]; exact ⟨rfl,rfl⟩
theorem x9E (tv:Value) (rs:List Rec) (a b:Int) (w:World) (ht:Rcs w tv rs) (hk:(Cn.check rs).2=0) (ha:Rune a) (hb:Rune b):Calls prog 166 #[tv,.int .i32 a,.int .i32 b] w (CmpR rs a b w):=by
 have h6:=(Cn.x0D.1 hk).1;have K1:=O (x8s a w ha);have K2:=O (x8u b w hb);have K3:=O (x2B a w ha);have K4:=O (x8t b w hb);obtain ⟨ta,tcp,aI,htc1,htc2⟩:=ht.shape;have HT:=O ht;have htl:=ht.1;subst aI
 have ai:Hid (Cn.jl a=true->Cn.jv b=true->CmpR rs a b w (.returned (.tuple #[.int .i32 (44032+(21 * (a - 4352)+b - 4449) * 28),.bool true])) w):=fun h1 h2=>CmpR.of (by
  unfold Cn.cmp9 Cn.sylOf;rw [h1,h2];simp only [Bool.and_self,if_true]
  rw [show (a - 4352) * 21=21 * (a - 4352) by omega])
 have aj:Hid ((Cn.jl a && Cn.jv b)=false->Cn.syl a=true->(a - 44032) % 28=0->Cn.jt b=true->CmpR rs a b w (.returned (.tuple #[.int .i32 (a+b - 4519),.bool true])) w):=fun h0 h1 h2 h3=>CmpR.of (by
  unfold Cn.cmp9 Cn.sylOf Cn.bare2;rw [h0,h1,h3,d0t h2];simp only [Bool.and_self,if_true];rw [show a+b - 4520+1=a+b - 4519 by omega]
  rfl)
 have al:Hid ((Cn.jl a && Cn.jv b)=false->(Cn.syl a && decide ((a - 44032) % 28=0) && Cn.jt b)=false->Cn.cmp9 rs a b=((Cn.x0S rs a b).getD 0,(Cn.x0S rs a b).isSome)):=fun h0 h1=>by
  unfold Cn.cmp9 Cn.sylOf Cn.bare2;rw [h0,h1];rfl
 have aa:Hid (∀ k,k<rs.length->(rs.getD k Cn.none).kind=7->(rs.getD k Cn.none).to.getD 0 0=a->(rs.getD k Cn.none).to.getD 1 0=b->Cn.cmp9 rs a b=((Cn.x0S rs a b).getD 0,(Cn.x0S rs a b).isSome)->CmpR rs a b w (.returned (.tuple #[.int .i32 (rs.getD k Cn.none).lo,.bool true])) w):=fun k hkl h7 h1 h2 he=>CmpR.of (by rw [he,Cn.z0e hk hkl h7 h1 h2]; rfl);have ah:Hid ((∀ j,j<rs.length->¬ ((rs.getD j Cn.none).kind=7/\(rs.getD j Cn.none).to.getD 0 0=a/\(rs.getD j Cn.none).to.getD 1 0=b))->Cn.cmp9 rs a b=((Cn.x0S rs a b).getD 0,(Cn.x0S rs a b).isSome)->CmpR rs a b w (.returned (.tuple #[.int .i32 0,.bool false])) w):=fun h he=>CmpR.of (by rw [he,Cn.z0g h]; rfl);have ae:Hid (∀ k,k<rs.length->(rs.getD k Cn.none).kind=7->(rs.getD k Cn.none).to.length=2/\Rune (rs.getD k Cn.none).lo):=fun k hkl h7=>⟨(Cn.y0W h6 hkl h7).1,x0C (Cn.y0W h6 hkl h7).2⟩;obtain ⟨ha1,ha2⟩:=ha;obtain ⟨hb1,hb2⟩:=hb;clear hk h6 ht;by_cases hA:Cn.jl a=true/\Cn.jv b=true
 ·have HF:=O (V ai hA.1 hA.2);rw [hA.1] at K1;rw [hA.2] at K2;have aE:=o0d hA.1;have aF:=o0d hA.2;obtain ⟨g1,g2⟩:=aE;obtain ⟨g3,g4⟩:=aF;have au:IntKind.i32.wrap (a - 4352)=a - 4352:=(by rw [IntKind.wrap_i32]; omega);have aJ:IntKind.i32.wrap (21 * (a - 4352))=21 * (a - 4352):=(by rw [IntKind.wrap_i32]; omega);have aK:IntKind.i32.wrap (21 * (a - 4352)+b)=21 * (a - 4352)+b:=(by rw [IntKind.wrap_i32]; omega);have hw4:IntKind.i32.wrap (21 * (a - 4352)+b - 4449)=21 * (a - 4352)+b - 4449:=(by rw [IntKind.wrap_i32]; omega);have hw5:IntKind.i32.wrap ((21 * (a - 4352)+b - 4449) * 28)=(21 * (a - 4352)+b - 4449) * 28:=(by rw [IntKind.wrap_i32]; omega);have hw6:IntKind.i32.wrap (44032+(21 * (a - 4352)+b - 4449) * 28)=44032+(21 * (a - 4352)+b - 4449) * 28:=(by rw [IntKind.wrap_i32]; omega);clear ai aj al aa ah ae K3 K4 HT hA;go_enter func166,ntmps166;go_wp2_with fail;refine (V K1).mono ?_;rintro e1 w1 ⟨rfl,rfl⟩;clear K1;go_wp2_with fail;refine (V K2).mono ?_;rintro e2 w2 ⟨rfl,rfl⟩;clear K2;go_wp2;go_ret2;exact V HF
 ·have hA0:(Cn.jl a && Cn.jv b)=false:=by
   cases h1:Cn.jl a <;> cases h2:Cn.jv b <;> simp_all
  by_cases hB:Cn.syl a=true/\(a - 44032) % 28=0/\Cn.jt b=true
  ·have HF:=O (V aj hA0 hB.1 hB.2.1 hB.2.2);have aG:=o0d hB.1;have aH:=o0d hB.2.2;obtain ⟨g1,g2⟩:=aG;obtain ⟨g3,g4⟩:=aH;have aA:=hB.2.1;rw [hB.1] at K3;rw [hB.2.2] at K4;have ac:Cn.jl a=false:=d0f (by omega);rw [ac] at K1;have au:IntKind.i32.wrap (a - 44032)=a - 44032:=(by rw [IntKind.wrap_i32]; omega);have af:(a - 44032).tmod 28=0:=(by rw [Int.tmod_eq_emod_of_nonneg (by omega)]; exact aA);have aJ:IntKind.i32.wrap (a+b)=a+b:=(by rw [IntKind.wrap_i32]; omega);have aK:IntKind.i32.wrap (a+b - 4519)=a+b - 4519:=(by rw [IntKind.wrap_i32]; omega);clear ai aj al aa ah ae K2 HT hA hA0 hB ac aA;go_enter func166,ntmps166;go_wp2_with fail;refine (V K1).mono ?_;rintro e1 w1 ⟨rfl,rfl⟩;clear K1;go_wp2_with fail;refine (V K3).mono ?_;rintro e2 w2 ⟨rfl,rfl⟩;clear K3;go_wp2_with fail;refine (V K4).mono ?_;rintro e3 w3 ⟨rfl,rfl⟩;clear K4;go_wp2;go_ret2;exact V HF
  ·have aw:(Cn.syl a && decide ((a - 44032) % 28=0) && Cn.jt b)=false:=by
    cases h1:Cn.syl a <;> cases h3:Cn.jt b <;> by_cases h2:(a - 44032) % 28=0 <;> simp_all
   have he:=V al hA0 aw;have ar:Hid (∀ k,k<rs.length->(rs.getD k Cn.none).kind=7->(rs.getD k Cn.none).to.getD 0 0=a->(rs.getD k Cn.none).to.getD 1 0=b->CmpR rs a b w (.returned (.tuple #[.int .i32 (rs.getD k Cn.none).lo,.bool true])) w):=fun k a1 a2 a3 a4=>V aa k a1 a2 a3 a4 he;have aq:Hid ((∀ j,j<rs.length->¬ ((rs.getD j Cn.none).kind=7/\(rs.getD j Cn.none).to.getD 0 0=a/\(rs.getD j Cn.none).to.getD 1 0=b))->CmpR rs a b w (.returned (.tuple #[.int .i32 0,.bool false])) w):=fun h=>V ah h he
   have ap:Hid (Cn.jl a=true->Cn.jv b=false):=fun h=>by
    cases h2:Cn.jv b
    ·rfl
    ·exact absurd ⟨h,h2⟩ hA
   have ag:Hid (Cn.syl a=true->(a - 44032) % 28=0->Cn.jt b=false):=fun h1 h2=>by
    cases h3:Cn.jt b
    ·rfl
    ·exact absurd ⟨h1,h2,h3⟩ hB
   have ak:Hid (Cn.syl a=true->IntKind.i32.wrap (a - 44032)=a - 44032/\(a - 44032).tmod 28=(a - 44032) % 28):=fun h=>by
    have:=o0d h;exact ⟨by rw [IntKind.wrap_i32]; omega,Int.tmod_eq_emod_of_nonneg (by omega)⟩
   clear ai aj al aa ah hA hA0 hB aw he;go_enter func166,ntmps166;go_wp2_with fail;refine (V K1).mono ?_;rintro e1 w1 ⟨rfl,rfl⟩;clear K1;cases ac:Cn.jl a
   case' true =>
    have az:=V ap ac;rw [az] at K2;clear ac az ap;go_wp2_with fail;refine (V K2).mono ?_;rintro e2 w2 ⟨rfl,rfl⟩;clear K2
   case' false=>clear ac ap K2
   all_goals
    go_wp2_with fail;refine (V K3).mono ?_;rintro e3 w3 ⟨rfl,rfl⟩;clear K3;cases hsy:Cn.syl a
    case' true =>
     obtain ⟨au,af⟩:=V ak hsy;by_cases hm:(a - 44032) % 28=0
    case' pos =>
     have ay:=V ag hsy hm;rw [ay] at K4;rw [hm] at af;clear hsy ay hm ak ag;go_wp2_with fail;refine (V K4).mono ?_;rintro e4 w3 ⟨rfl,rfl⟩;clear K4 af au
    case' neg =>
     have hne:¬ ((a - 44032).tmod 28=0):=(by rw [af]; exact hm);clear hsy af hm ak ag K4
    case' false=>clear hsy ak ag K4
    all_goals
     go_wp2;go_loopw [8] (fun ii wr=>wr=w3/\∃ k:Nat,ii=.int .i64 k/\k<=rs.length/\∀ j,j<k->¬ ((rs.getD j Cn.none).kind=7/\(rs.getD j Cn.none).to.getD 0 0=a/\(rs.getD j Cn.none).to.getD 1 0=b)) (fun ii _=>rs.length - (intOf ii).toNat)
     case atStart=>exact ⟨rfl,0,rfl,by omega,fun j hj=>by omega⟩
     case round =>
      obtain ⟨rfl,k,rfl,hk,an⟩:=hrel;by_cases hlt:k<rs.length
      ·obtain ⟨bq,off,cp,he,_,_,ax⟩:=(V HT).place (by omega);simp only [Value.slice.injEq] at he;obtain ⟨rfl,h9,rfl⟩:=he;clear h9;obtain ⟨z0,z1,_,_,⟨vk,z4,av⟩,_,_,_⟩:=ax k hlt;have hY:=V ar k hlt;have hS:=V ae k hlt
       have ab:Hid (¬ ((rs.getD k Cn.none).kind=7/\(rs.getD k Cn.none).to.getD 0 0=a/\(rs.getD k Cn.none).to.getD 1 0=b)->∀ j,j<k+1->¬ ((rs.getD j Cn.none).kind=7/\(rs.getD j Cn.none).to.getD 0 0=a/\(rs.getD j Cn.none).to.getD 1 0=b)):=fun h j hj=>by
        rcases Nat.lt_or_ge j k with h' | h'
        ·exact an j h'
        ·obtain rfl:j=k:=(by omega);exact h
       clear ax an ar aq ae;by_cases e1:(rs.getD k Cn.none).kind=7
       ·obtain ⟨kb,koff,kcap,rfl,kc1,kc2,k0,k1⟩:=x2u av (hS e1).1;obtain ⟨lo1,lo2⟩:=(hS e1).2;have am:=O (hY e1);rw [e1] at z0;clear av hS hY;by_cases e2:(rs.getD k Cn.none).to.getD 0 0=a
        ·by_cases e3:(rs.getD k Cn.none).to.getD 1 0=b
         ·have HF:=O (V am e2 e3);rw [e2] at k0;rw [e3] at k1;clear am ab e1 e2 e3;generalize (rs.getD k Cn.none).lo=lo at *;have hwl:IntKind.i32.wrap lo=lo:=(by rw [IntKind.wrap_i32]; omega);have aB:(a==a)=true:=(by simp);have hbb:(b==b)=true:=(by simp);go_wp2;go_ret2;exact V HF
         ·have ad:=O (V ab (fun h=>e3 h.2.2));have aC:((rs.getD k Cn.none).to.getD 1 0==b)=false:=b0f e3;rw [e2] at k0;have aB:(a==a)=true:=(by simp);clear am ab e1 e2 e3;generalize (rs.getD k Cn.none).to.getD 1 0=kb2 at *;go_wp2
          go_roundw
          case rel=>exact ⟨by first | rfl | trivial,k+1,by go_num,by omega,V ad⟩
          case measure=>simp [intOf]; omega
        ·have ad:=O (V ab (fun h=>e2 h.2.1));have aC:((rs.getD k Cn.none).to.getD 0 0==a)=false:=b0f e2;clear am ab e1 e2;generalize (rs.getD k Cn.none).to.getD 0 0=ka at *;generalize (rs.getD k Cn.none).to.getD 1 0=kb2 at *;go_wp2
         go_roundw
         case rel=>exact ⟨by first | rfl | trivial,k+1,by go_num,by omega,V ad⟩
         case measure=>simp [intOf]; omega
       ·have ad:=O (V ab (fun h=>e1 h.1));have hk7:((rs.getD k Cn.none).kind==7)=false:=b0f e1;clear hY hS av ab e1;generalize (rs.getD k Cn.none).kind=kk at *;go_wp2
        go_roundw
        case rel=>exact ⟨by first | rfl | trivial,k+1,by go_num,by omega,V ad⟩
        case measure=>simp [intOf]; omega
      ·obtain rfl:k=rs.length:=(by omega);have HF:=O (V aq an);clear an aq ar ae;go_wp2;go_ret2;exact V HF
open Ti
theorem x9F (v:Value) (rs:List Rec) (a b:Int) (w:World) (hv:Rcs w v rs) (hk:(Cn.check rs).2=0) (ha:Rune a) (hb:Rune b):Calls prog 129 #[v,.int .i32 a,.int .i32 b] w (CmpR rs a b w):=by
 have K:=O (x9E v rs a b w hv hk ha hb);obtain ⟨a0,a1⟩:=ha;obtain ⟨b0,b1⟩:=hb;obtain ⟨ao,cap,rfl,_,_⟩:=hv.shape;have HF:Hid (CmpR rs a b w (.returned (.tuple #[.int .i32 (Cn.cmp9 rs a b).1,.bool (Cn.cmp9 rs a b).2])) w):=CmpR.of rfl;unfold CmpR at K;clear hv hk;generalize Cn.cmp9 rs a b=z at *;go_enter func129,ntmps129;go_wp2_with fail;refine (V K).mono ?_;rintro e w1 ⟨rfl,rfl⟩;clear K;go_wp2;go_ret2;exact V HF
