/- Vr9 -/
import Derived.Test.YtnpdonnijonpnaaGreatDoorW42
namespace Go.Proofs.YtnpdonnijonpnaaGreatDoor
open Go.RowKit
open Ti
def CmpR (rs:List Rec) (a b:Int) (w:World) (e:Ending) (w':World):Prop:=e=.returned (.tuple #[.int .i32 (Cn.cmp9 rs a b).1,.bool (Cn.cmp9 rs a b).2])∧w'=w
theorem CmpR.of {rs:List Rec} {a b p:Int} {o:Bool} {w:World} (h:Cn.cmp9 rs a b=(p,o)):CmpR rs a b w (.returned (.tuple #[.int .i32 p,.bool o])) w:=by
 unfold CmpR; rw [h]; exact ⟨rfl,rfl⟩
set_option maxRecDepth 8000 in
set_option maxHeartbeats 8000000 in
theorem refCompose7 (tv:Value) (rs:List Rec) (a b:Int) (w:World) (ht:Rcs w tv rs) (hk:(Cn.check rs).2=0) (ha:Rune a) (hb:Rune b):Calls Tryz.prog 38 #[tv,.int .i32 a,.int .i32 b] w (CmpR rs a b w):=by
 have h6:=(Cn.check_iff.1 hk).1
 have K1:=Hd (refJl_any a w ha)
 have K2:=Hd (refJv_any b w hb)
 have K3:=Hd (refSyl_any a w ha)
 have K4:=Hd (refJt_any b w hb)
 obtain ⟨ta,tcp,hte,htc1,htc2⟩:=ht.shape
 have HT:=Hd ht
 have htl:=ht.1
 subst hte
 have HP1:Hid (Cn.jl a=true→Cn.jv b=true→CmpR rs a b w (.returned (.tuple #[.int .i32 (44032+(21 * (a - 4352)+b - 4449) * 28),.bool true])) w):=fun h1 h2=>CmpR.of (by
  unfold Cn.cmp9 Cn.sylOf
  rw [h1,h2]
  simp only [Bool.and_self,if_true]
  rw [show (a - 4352) * 21=21 * (a - 4352) by omega])
 have HP2:Hid ((Cn.jl a && Cn.jv b)=false→Cn.syl a=true→(a - 44032) % 28=0→Cn.jt b=true→CmpR rs a b w (.returned (.tuple #[.int .i32 (a+b - 4519),.bool true])) w):=fun h0 h1 h2 h3=>CmpR.of (by
  unfold Cn.cmp9 Cn.sylOf Cn.bare2
  rw [h0,h1,h3,decide_eq_true h2]
  simp only [Bool.and_self,if_true]
  rw [show a+b - 4520+1=a+b - 4519 by omega]
  rfl)
 have HSY:Hid ((Cn.jl a && Cn.jv b)=false→(Cn.syl a && decide ((a - 44032) % 28=0) && Cn.jt b)=false→Cn.cmp9 rs a b=((Cn.pairOf rs a b).getD 0,(Cn.pairOf rs a b).isSome)):=fun h0 h1=>by
  unfold Cn.cmp9 Cn.sylOf Cn.bare2
  rw [h0,h1]
  rfl
 have HYES:Hid (∀ k,k<rs.length→(rs.getD k Cn.none).kind=7→(rs.getD k Cn.none).to.getD 0 0=a→(rs.getD k Cn.none).to.getD 1 0=b→Cn.cmp9 rs a b=((Cn.pairOf rs a b).getD 0,(Cn.pairOf rs a b).isSome)→CmpR rs a b w (.returned (.tuple #[.int .i32 (rs.getD k Cn.none).lo,.bool true])) w):=fun k hkl h7 h1 h2 he=>CmpR.of (by rw [he,Cn.pair_at hk hkl h7 h1 h2]; rfl)
 have HNO:Hid ((∀ j,j<rs.length→¬ ((rs.getD j Cn.none).kind=7∧(rs.getD j Cn.none).to.getD 0 0=a∧(rs.getD j Cn.none).to.getD 1 0=b))→Cn.cmp9 rs a b=((Cn.pairOf rs a b).getD 0,(Cn.pairOf rs a b).isSome)→CmpR rs a b w (.returned (.tuple #[.int .i32 0,.bool false])) w):=fun h he=>CmpR.of (by rw [he,Cn.pair_no h]; rfl)
 have HSV:Hid (∀ k,k<rs.length→(rs.getD k Cn.none).kind=7→(rs.getD k Cn.none).to.length=2∧Rune (rs.getD k Cn.none).lo):=fun k hkl h7=>⟨(Cn.seven_at h6 hkl h7).1,rune_scalar (Cn.seven_at h6 hkl h7).2⟩
 obtain ⟨ha1,ha2⟩:=ha
 obtain ⟨hb1,hb2⟩:=hb
 clear hk h6 ht
 by_cases hA:Cn.jl a=true∧Cn.jv b=true
 ·have HF:=Hd ((Uh HP1) hA.1 hA.2)
  rw [hA.1] at K1
  rw [hA.2] at K2
  have hj1:=of_decide_eq_true hA.1
  have hj2:=of_decide_eq_true hA.2
  obtain ⟨g1,g2⟩:=hj1
  obtain ⟨g3,g4⟩:=hj2
  have hw1:IntKind.i32.wrap (a - 4352)=a - 4352:=by rw [IntKind.wrap_i32]; omega
  have hw2:IntKind.i32.wrap (21 * (a - 4352))=21 * (a - 4352):=by rw [IntKind.wrap_i32]; omega
  have hw3:IntKind.i32.wrap (21 * (a - 4352)+b)=21 * (a - 4352)+b:=by rw [IntKind.wrap_i32]; omega
  have hw4:IntKind.i32.wrap (21 * (a - 4352)+b - 4449)=21 * (a - 4352)+b - 4449:=by rw [IntKind.wrap_i32]; omega
  have hw5:IntKind.i32.wrap ((21 * (a - 4352)+b - 4449) * 28)=(21 * (a - 4352)+b - 4449) * 28:=by rw [IntKind.wrap_i32]; omega
  have hw6:IntKind.i32.wrap (44032+(21 * (a - 4352)+b - 4449) * 28)=44032+(21 * (a - 4352)+b - 4449) * 28:=by rw [IntKind.wrap_i32]; omega
  clear HP1 HP2 HSY HYES HNO HSV K3 K4 HT hA
  go_enter Tryz.func38,Tryz.ntmps38
  go_wp2_with fail
  refine (Uh K1).mono ?_
  rintro e1 w1 ⟨rfl,rfl⟩
  clear K1
  go_wp2_with fail
  refine (Uh K2).mono ?_
  rintro e2 w2 ⟨rfl,rfl⟩
  clear K2
  go_wp2
  go_ret2
  exact Uh HF
 ·have hA0:(Cn.jl a && Cn.jv b)=false:=by
   cases h1:Cn.jl a <;> cases h2:Cn.jv b <;> simp_all
  by_cases hB:Cn.syl a=true∧(a - 44032) % 28=0∧Cn.jt b=true
  ·have HF:=Hd ((Uh HP2) hA0 hB.1 hB.2.1 hB.2.2)
   have hs1:=of_decide_eq_true hB.1
   have hs2:=of_decide_eq_true hB.2.2
   obtain ⟨g1,g2⟩:=hs1
   obtain ⟨g3,g4⟩:=hs2
   have hmo:=hB.2.1
   rw [hB.1] at K3
   rw [hB.2.2] at K4
   have hjl:Cn.jl a=false:=decide_eq_false (by omega)
   rw [hjl] at K1
   have hw1:IntKind.i32.wrap (a - 44032)=a - 44032:=by rw [IntKind.wrap_i32]; omega
   have htm:(a - 44032).tmod 28=0:=by rw [Int.tmod_eq_emod_of_nonneg (by omega)]; exact hmo
   have hw2:IntKind.i32.wrap (a+b)=a+b:=by rw [IntKind.wrap_i32]; omega
   have hw3:IntKind.i32.wrap (a+b - 4519)=a+b - 4519:=by rw [IntKind.wrap_i32]; omega
   clear HP1 HP2 HSY HYES HNO HSV K2 HT hA hA0 hB hjl hmo
   go_enter Tryz.func38,Tryz.ntmps38
   go_wp2_with fail
   refine (Uh K1).mono ?_
   rintro e1 w1 ⟨rfl,rfl⟩
   clear K1
   go_wp2_with fail
   refine (Uh K3).mono ?_
   rintro e2 w2 ⟨rfl,rfl⟩
   clear K3
   go_wp2_with fail
   refine (Uh K4).mono ?_
   rintro e3 w3 ⟨rfl,rfl⟩
   clear K4
   go_wp2
   go_ret2
   exact Uh HF
  ·have hB0:(Cn.syl a && decide ((a - 44032) % 28=0) && Cn.jt b)=false:=by
    cases h1:Cn.syl a <;> cases h3:Cn.jt b <;> by_cases h2:(a - 44032) % 28=0 <;> simp_all
   have he:=(Uh HSY) hA0 hB0
   have HY2:Hid (∀ k,k<rs.length→(rs.getD k Cn.none).kind=7→(rs.getD k Cn.none).to.getD 0 0=a→(rs.getD k Cn.none).to.getD 1 0=b→CmpR rs a b w (.returned (.tuple #[.int .i32 (rs.getD k Cn.none).lo,.bool true])) w):=fun k a1 a2 a3 a4=>(Uh HYES) k a1 a2 a3 a4 he
   have HN2:Hid ((∀ j,j<rs.length→¬ ((rs.getD j Cn.none).kind=7∧(rs.getD j Cn.none).to.getD 0 0=a∧(rs.getD j Cn.none).to.getD 1 0=b))→CmpR rs a b w (.returned (.tuple #[.int .i32 0,.bool false])) w):=fun h=>(Uh HNO) h he
   have HAV:Hid (Cn.jl a=true→Cn.jv b=false):=fun h=>by
    cases h2:Cn.jv b
    ·rfl
    ·exact absurd ⟨h,h2⟩ hA
   have HBT:Hid (Cn.syl a=true→(a - 44032) % 28=0→Cn.jt b=false):=fun h1 h2=>by
    cases h3:Cn.jt b
    ·rfl
    ·exact absurd ⟨h1,h2,h3⟩ hB
   have HSR:Hid (Cn.syl a=true→IntKind.i32.wrap (a - 44032)=a - 44032∧(a - 44032).tmod 28=(a - 44032) % 28):=fun h=>by
    have:=of_decide_eq_true h
    exact ⟨by rw [IntKind.wrap_i32]; omega,Int.tmod_eq_emod_of_nonneg (by omega)⟩
   clear HP1 HP2 HSY HYES HNO hA hA0 hB hB0 he
   go_enter Tryz.func38,Tryz.ntmps38
   go_wp2_with fail
   refine (Uh K1).mono ?_
   rintro e1 w1 ⟨rfl,rfl⟩
   clear K1
   cases hjl:Cn.jl a
   case' true =>
    have hjv:=(Uh HAV) hjl
    rw [hjv] at K2
    clear hjl hjv HAV
    go_wp2_with fail
    refine (Uh K2).mono ?_
    rintro e2 w2 ⟨rfl,rfl⟩
    clear K2
   case' false=>clear hjl HAV K2
   all_goals
    go_wp2_with fail
    refine (Uh K3).mono ?_
    rintro e3 w3 ⟨rfl,rfl⟩
    clear K3
    cases hsy:Cn.syl a
    case' true =>
     obtain ⟨hw1,htm⟩:=(Uh HSR) hsy
     by_cases hm:(a - 44032) % 28=0
    case' pos =>
     have hjt:=(Uh HBT) hsy hm
     rw [hjt] at K4
     rw [hm] at htm
     clear hsy hjt hm HSR HBT
     go_wp2_with fail
     refine (Uh K4).mono ?_
     rintro e4 w3 ⟨rfl,rfl⟩
     clear K4 htm hw1
    case' neg =>
     have hne:¬ ((a - 44032).tmod 28=0):=by rw [htm]; exact hm
     clear hsy htm hm HSR HBT K4
    case' false=>clear hsy HSR HBT K4
    all_goals
     go_wp2
     go_loopw [8] (fun ii wr=>wr=w3∧∃ k:Nat,ii=.int .i64 k∧k≤rs.length∧∀ j,j<k→¬ ((rs.getD j Cn.none).kind=7∧(rs.getD j Cn.none).to.getD 0 0=a∧(rs.getD j Cn.none).to.getD 1 0=b)) (fun ii _=>rs.length - (intOf ii).toNat)
     case atStart=>exact ⟨rfl,0,rfl,by omega,fun j hj=>by omega⟩
     case round =>
      obtain ⟨rfl,k,rfl,hk,hno⟩:=hrel
      by_cases hlt:k<rs.length
      ·obtain ⟨bq,off,cp,he,_,_,hat⟩:=(Uh HT).place (by omega)
       simp only [Value.slice.injEq] at he
       obtain ⟨rfl,h9,rfl⟩:=he
       clear h9
       obtain ⟨z0,z1,_,_,⟨vk,z4,skk⟩,_,_,_⟩:=hat k hlt
       have hY:=(Uh HY2) k hlt
       have hS:=(Uh HSV) k hlt
       have HNN:Hid (¬ ((rs.getD k Cn.none).kind=7∧(rs.getD k Cn.none).to.getD 0 0=a∧(rs.getD k Cn.none).to.getD 1 0=b)→∀ j,j<k+1→¬ ((rs.getD j Cn.none).kind=7∧(rs.getD j Cn.none).to.getD 0 0=a∧(rs.getD j Cn.none).to.getD 1 0=b)):=fun h j hj=>by
        rcases Nat.lt_or_ge j k with h' | h'
        ·exact hno j h'
        ·obtain rfl:j=k:=by omega
         exact h
       clear hat hno HY2 HN2 HSV
       by_cases e1:(rs.getD k Cn.none).kind=7
       ·obtain ⟨kb,koff,kcap,rfl,kc1,kc2,k0,k1⟩:=two_cells skk (hS e1).1
        obtain ⟨lo1,lo2⟩:=(hS e1).2
        have hY2:=Hd (hY e1)
        rw [e1] at z0
        clear skk hS hY
        by_cases e2:(rs.getD k Cn.none).to.getD 0 0=a
        ·by_cases e3:(rs.getD k Cn.none).to.getD 1 0=b
         ·have HF:=Hd ((Uh hY2) e2 e3)
          rw [e2] at k0
          rw [e3] at k1
          clear hY2 HNN e1 e2 e3
          generalize (rs.getD k Cn.none).lo=lo at *
          have hwl:IntKind.i32.wrap lo=lo:=by rw [IntKind.wrap_i32]; omega
          have haa:(a==a)=true:=by simp
          have hbb:(b==b)=true:=by simp
          go_wp2
          go_ret2
          exact Uh HF
         ·have HN3:=Hd ((Uh HNN) (fun h=>e3 h.2.2))
          have hcc:((rs.getD k Cn.none).to.getD 1 0==b)=false:=beq_eq_false_iff_ne.2 e3
          rw [e2] at k0
          have haa:(a==a)=true:=by simp
          clear hY2 HNN e1 e2 e3
          generalize (rs.getD k Cn.none).to.getD 1 0=kb2 at *
          go_wp2
          go_roundw
          case rel=>exact ⟨by first | rfl | trivial,k+1,by go_num,by omega,Uh HN3⟩
          case measure=>simp [intOf]; omega
        ·have HN3:=Hd ((Uh HNN) (fun h=>e2 h.2.1))
         have hcc:((rs.getD k Cn.none).to.getD 0 0==a)=false:=beq_eq_false_iff_ne.2 e2
         clear hY2 HNN e1 e2
         generalize (rs.getD k Cn.none).to.getD 0 0=ka at *
         generalize (rs.getD k Cn.none).to.getD 1 0=kb2 at *
         go_wp2
         go_roundw
         case rel=>exact ⟨by first | rfl | trivial,k+1,by go_num,by omega,Uh HN3⟩
         case measure=>simp [intOf]; omega
       ·have HN3:=Hd ((Uh HNN) (fun h=>e1 h.1))
        have hk7:((rs.getD k Cn.none).kind==7)=false:=beq_eq_false_iff_ne.2 e1
        clear hY hS skk HNN e1
        generalize (rs.getD k Cn.none).kind=kk at *
        go_wp2
        go_roundw
        case rel=>exact ⟨by first | rfl | trivial,k+1,by go_num,by omega,Uh HN3⟩
        case measure=>simp [intOf]; omega
      ·obtain rfl:k=rs.length:=by omega
       have HF:=Hd ((Uh HN2) hno)
       clear hno HN2 HY2 HSV
       go_wp2
       go_ret2
       exact Uh HF
end Go.Proofs.YtnpdonnijonpnaaGreatDoor
