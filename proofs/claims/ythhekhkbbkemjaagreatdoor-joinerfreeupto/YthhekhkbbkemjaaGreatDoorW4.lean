/- Jf16 -/
import Derived.Test.YthhekhkbbkemjaaGreatDoorW3
import Derived.Deep.RegionHeld3
namespace Go.Proofs.YthhekhkbbkemjaaGreatDoor
open Go.RowKit
def RPropC16 (f:Nat) (w0:World) (tv:Value) (cl:Int→Int):Prop:=∀ c,Rune c→∀ W,Below w0.heap.size w0 W→Calls Tryz.prog f #[tv,.int .i32 c] W (IntB W (cl c))
set_option maxRecDepth 8000 in
set_option maxHeartbeats 1000000 in
theorem refFits_out16 (tv:Value) {cl j:Int→Int} {xv:Value} {X:List Int} (w:World) (hx:Sk .i32 w xv X) (i:Int) (hi:-9223372036854775808≤i∧i≤9223372036854775807) (ho:i<0∨(X.length:Int)≤i):Calls Tryz.prog 10 #[tv,xv,.int .i64 i] w (Tells w (Jn.fiti cl j X i)):=by
 have hlen:=hx.len
 have h9:=hi.1
 have h10:=hi.2
 clear hi
 obtain ⟨ao,cap,rfl,_,_⟩:=hx.shape
 have e:Jn.fiti cl j X i=false:=by
  unfold Jn.fiti
  rcases ho with h | h
  ·rw [decide_eq_false (by omega),Bool.false_and]
  ·rw [decide_eq_false (p:=i<X.length) (by omega),Bool.false_and,Bool.and_false]
 rw [e]
 clear hx e
 by_cases h0:i<0
 ·clear ho
  go_enter Tryz.func10,Tryz.ntmps10
  go_wp2
  go_ret
  exact ⟨rfl,Below.refl _ _⟩
 ·have h2:(X.length:Int)≤i:=by omega
  have h3:0≤i:=by omega
  clear ho h0
  go_enter Tryz.func10,Tryz.ntmps10
  go_wp2
  go_ret
  exact ⟨rfl,Below.refl _ _⟩
set_option maxRecDepth 8000 in
set_option maxHeartbeats 8000000 in
theorem refFits_in16 (ta:Option Addr) (tl tc:Nat) {cl j:Int→Int} {xv:Value} {X:List Int} (w:World) (hC:RPropC16 21 w (.slice ta tl tc) cl) (hJ:RPropC16 13 w (.slice ta tl tc) j) (hx:Sk .i32 w xv X) (n:Nat) (hn:n<X.length):Calls Tryz.prog 10 #[.slice ta tl tc,xv,.int .i64 n] w (Tells w (Jn.fit cl j X n)):=by
 have hlen:=hx.len
 obtain ⟨g,off,cap,rfl,_,_,hcl⟩:=hx.place (by omega)
 have x4:=hcl n hn
 have hL:(n:Int)<X.length:=by omega
 have HC:Hid (∀ (k:Nat),k<X.length→∀ W,Below w.heap.size w W→W.cell? ⟨g,off+k,none⟩=some (.int .i32 (X.getD k 0))):=fun k hk W hW=>by rw [hW.cell (lt_of_cell? (hcl k hk))]; exact hcl k hk
 have hrn:∀ k,k<X.length→Rune (X.getD k 0):=fun k hk=>by
  have:=hx.1 (X.getD k 0) (by simp [List.getD,hk])
  exact ⟨this.1,this.2⟩
 have KC:Hid (∀ (k:Nat),k<X.length→∀ W,Below w.heap.size w W→Calls Tryz.prog 21 #[.slice ta tl tc,.int .i32 (X.getD k 0)] W (IntB W (cl (X.getD k 0)))):=fun k hk W hW=>hC _ (hrn k hk) W hW
 have KJ:Hid (∀ (k:Nat),k<X.length→∀ W,Below w.heap.size w W→Calls Tryz.prog 13 #[.slice ta tl tc,.int .i32 (X.getD k 0)] W (IntB W (j (X.getD k 0)))):=fun k hk W hW=>hJ _ (hrn k hk) W hW
 clear hC hJ hx hcl hrn
 by_cases h1:X.getD n 0=8204
 ·rw [Jn.fit_zw h1]
  rw [h1] at x4
  have HBT:Hid (Jn.btw j X n=(Jn.lok (Jn.lf j X n) && Jn.rok (Jn.rt j X (n+1)))):=rfl
  have HV0:Hid (n=0→Jn.vir cl X n=false):=fun h=>by rw [h]; rfl
  have HVS:Hid (∀ m,n=m+1→Jn.vir cl X n=decide (cl (X.getD m 0)=9)):=fun m h=>by rw [h]; exact Jn.vir_succ (by omega)
  have H1:=Hd h1
  clear h1
  generalize Jn.vir cl X n=vb at *
  generalize hbt:Jn.btw j X n=bt at *
  clear hbt
  rcases Nat.eq_zero_or_pos n with hp | hp
  ·subst hp
   have hvb:=(Uh HV0) rfl
   have hbt2:bt=false:=Uh HBT
   rw [hvb,hbt2,Bool.false_or]
   clear HV0 HVS KC hvb hbt2 HBT
   rw [Nat.add_zero] at x4
   have h0a:(0:Int)<X.length:=by omega
   have h0b:¬ X.length=0:=by omega
   have h0c:¬ X=[]:=fun h=>h0b (by rw [h]; rfl)
   clear hL
   show Calls _ _ #[_,_,.int .i64 (0:Int)] _ _
   go_enter Tryz.func10,Tryz.ntmps10
   go_wp2
   refine wp_loop_rounds 1 ?_
   rw [rounds_succ]
   go_wp2
   go_loopw [8] (fun av wr=>∃ r:Nat,av=.int .i64 (r:Int)∧0<r∧r≤X.length∧Jn.rt j X (0+1)=Jn.rt j X r∧Below w.heap.size w wr) (fun av _=>X.length - (intOf av).toNat)
   case atStart=>exact ⟨0+1,by first | rfl | go_num,by omega,by omega,rfl,Below.refl _ _⟩
   case round =>
    obtain ⟨r,rfl,hr1,hr2,hrt,hbr⟩:=hrel
    by_cases hlt:r<X.length
    ·have hL2:(r:Int)<X.length:=by omega
     have hr0:(0:Int)≤r:=by omega
     have x8:=(Uh HC) r hlt wr hbr
     have HXR:Hid (∀ W,Below w.heap.size w W→W.cell? ⟨g,off+r,none⟩=some (.int .i32 (X.getD r 0))):=fun W hW=>(Uh HC) r hlt W hW
     have KR:Hid (∀ W,Below w.heap.size w W→Calls Tryz.prog 13 #[.slice ta tl tc,.int .i32 (X.getD r 0)] W (IntB W (j (X.getD r 0)))):=fun W hW=>(Uh KJ) r hlt W hW
     have HRT:=Hd (Jn.rt_at (j:=j) hlt)
     have HRE:=Hd hrt
     have HBR:=Hd hbr
     clear hrt hbr
     generalize j (X.getD r 0)=z2 at *
     generalize X.getD r 0=c2 at *
     by_cases z5:z2=5
     ·subst z5
      have HR2:Hid (Jn.rt j X (0+1)=Jn.rt j X (r+1)):=(Uh HRE).trans (by rw [Uh HRT]; rfl)
      have hw5:IntKind.i64.wrap ((r:Int)+1)=(r:Int)+1:=by rw [IntKind.wrap_i64]; omega
      clear HRT HRE HXR
      go_wp2_with fail
      refine ((Uh KR) wr (Uh HBR)).mono ?_
      rintro e w3 ⟨rfl,b3⟩
      have HB3:=Hd (bthen (Uh HBR) b3)
      clear KR b3 HBR x8
      go_wp2
      go_roundw
      case rel=>exact ⟨r+1,by go_num,by omega,by omega,Uh HR2,Uh HB3⟩
      case measure=>simp [intOf] <;> omega
     ·have HR2:Hid (Jn.rt j X (0+1)=z2):=(Uh HRE).trans (by rw [Uh HRT,if_neg z5])
      have z5f:(z2==5)=false:=by rw [beq_eq_false_iff_ne]; exact z5
      have hrl:((r:Int)==(X.length:Int))=false:=by rw [beq_eq_false_iff_ne]; omega
      have hrl2:¬ r=X.length:=by omega
      clear HRT HRE
      go_wp2_with fail
      refine ((Uh KR) wr (Uh HBR)).mono ?_
      rintro e w3 ⟨rfl,b3⟩
      have HB3:=Hd (bthen (Uh HBR) b3)
      clear b3 HBR x8 z5
      go_wp2
      go_ret
      exact ⟨rfl,Uh HB3⟩
    ·obtain rfl:r=X.length:=by omega
     have HB3:=Hd hbr
     have HRE:=Hd hrt
     clear hrt hbr
     go_wp2
     go_ret
     exact ⟨rfl,Uh HB3⟩
  ·obtain ⟨m,hm⟩:∃ m,n=m+1:=⟨n - 1,by omega⟩
   have hvb:=(Uh HVS) m hm
   have K:=(Uh KC) m (by omega) w (Below.refl _ _)
   have x5:=(Uh HC) m (by omega) w (Below.refl _ _)
   clear HV0 HVS KC
   have hw1:IntKind.i64.wrap ((n:Int) - 1)=(m:Int):=by rw [IntKind.wrap_i64]; omega
   have hm2:(m:Int)<X.length:=by omega
   have hm1:(0:Int)≤m:=by omega
   have hp1:(0:Int)<n:=by omega
   have hp2:¬ (n:Int)<0:=by omega
   have HM:=Hd hm
   have K:=Hd K
   clear hm
   generalize cl (X.getD m 0)=z at *
   generalize X.getD m 0=c at *
   by_cases hz:z=9
   ·subst hz
    have hvb2:vb=true:=hvb
    rw [hvb2,Bool.true_or]
    clear hvb hvb2
    go_enter Tryz.func10,Tryz.ntmps10
    go_wp2_with fail
    refine (Uh K).mono ?_
    rintro e w1 ⟨rfl,b1⟩
    have HB:=Hd b1
    clear K b1
    go_wp2
    go_ret
    exact ⟨rfl,Uh HB⟩
   ·rw [hvb,decide_eq_false hz,Bool.false_or]
    have z9:(z==9)=false:=by rw [beq_eq_false_iff_ne]; exact hz
    clear hvb hz
    go_enter Tryz.func10,Tryz.ntmps10
    go_wp2_with fail
    refine (Uh K).mono ?_
    rintro e w1 ⟨rfl,b1⟩
    have x6:=(Uh HC) n hn w1 b1
    rw [Uh H1] at x6
    have HB:=Hd b1
    have hw3:IntKind.i64.wrap ((n:Int)+1)=(n:Int)+1:=by rw [IntKind.wrap_i64]; omega
    clear K b1 x4 x5
    go_wp2
    clear x6
    go_loopw [7] (fun av wr=>∃ k:Nat,av=.int .i64 ((k:Int) - 1)∧k≤n∧Jn.lf j X n=Jn.lf j X k∧Below w.heap.size w wr) (fun av _=>(intOf av+1).toNat)
    case atStart=>exact ⟨n,by congr 1; have:=Uh HM; omega,Nat.le_refl _,rfl,Uh HB⟩
    case round =>
     clear HB
     obtain ⟨k,rfl,hk,hlf,hbr⟩:=hrel
     cases k with
     | zero =>
      rw [show (((0:Nat):Int) - 1)=-1 from rfl]
      have HBT0:Hid (bt=false):=by
       show bt=false
       rw [Uh HBT,hlf]; rfl
      have HB:=Hd hbr
      clear hlf hbr HBT
      go_wp2
      go_loopw [8] (fun av wr=>∃ r:Nat,av=.int .i64 (r:Int)∧n<r∧r≤X.length∧Jn.rt j X (n+1)=Jn.rt j X r∧Below w.heap.size w wr) (fun av _=>X.length - (intOf av).toNat)
      case atStart=>exact ⟨n+1,by first | rfl | go_num,by omega,by omega,rfl,Uh HB⟩
      case round =>
       obtain ⟨r,rfl,hr1,hr2,hrt,hbr⟩:=hrel
       by_cases hlt:r<X.length
       ·have hL2:(r:Int)<X.length:=by omega
        have hr0:(0:Int)≤r:=by omega
        have x8:=(Uh HC) r hlt wr hbr
        have HXR:Hid (∀ W,Below w.heap.size w W→W.cell? ⟨g,off+r,none⟩=some (.int .i32 (X.getD r 0))):=fun W hW=>(Uh HC) r hlt W hW
        have KR:Hid (∀ W,Below w.heap.size w W→Calls Tryz.prog 13 #[.slice ta tl tc,.int .i32 (X.getD r 0)] W (IntB W (j (X.getD r 0)))):=fun W hW=>(Uh KJ) r hlt W hW
        have HRT:=Hd (Jn.rt_at (j:=j) hlt)
        have HRE:=Hd hrt
        have HBR:=Hd hbr
        clear hrt hbr
        generalize j (X.getD r 0)=z2 at *
        generalize X.getD r 0=c2 at *
        by_cases z5:z2=5
        ·subst z5
         have HR2:Hid (Jn.rt j X (n+1)=Jn.rt j X (r+1)):=(Uh HRE).trans (by rw [Uh HRT]; rfl)
         have hw5:IntKind.i64.wrap ((r:Int)+1)=(r:Int)+1:=by rw [IntKind.wrap_i64]; omega
         clear HRT HRE HXR
         go_wp2_with fail
         refine ((Uh KR) wr (Uh HBR)).mono ?_
         rintro e w3 ⟨rfl,b3⟩
         have HB3:=Hd (bthen (Uh HBR) b3)
         clear KR b3 HBR x8
         go_wp2
         go_roundw
         case rel=>exact ⟨r+1,by go_num,by omega,by omega,Uh HR2,Uh HB3⟩
         case measure=>simp [intOf] <;> omega
        ·have HR2:Hid (Jn.rt j X (n+1)=z2):=(Uh HRE).trans (by rw [Uh HRT,if_neg z5])
         have z5f:(z2==5)=false:=by rw [beq_eq_false_iff_ne]; exact z5
         have hrl:((r:Int)==(X.length:Int))=false:=by rw [beq_eq_false_iff_ne]; omega
         have hrl2:¬ r=X.length:=by omega
         clear HRT HRE
         go_wp2_with fail
         refine ((Uh KR) wr (Uh HBR)).mono ?_
         rintro e w3 ⟨rfl,b3⟩
         have HB3:=Hd (bthen (Uh HBR) b3)
         clear b3 HBR x8 z5
         go_wp2
         rw [Uh HBT0]
         go_ret
         exact ⟨rfl,Uh HB3⟩
       ·obtain rfl:r=X.length:=by omega
        have HB3:=Hd hbr
        have HRE:=Hd hrt
        clear hrt hbr
        go_wp2
        rw [Uh HBT0]
        go_ret
        exact ⟨rfl,Uh HB3⟩
     | succ q =>
      rw [show (((q+1:Nat):Int) - 1)=(q:Int) by omega]
      have hq:q<X.length:=by omega
      have hq1:(q:Int)<X.length:=by omega
      have hq2:(0:Int)≤q:=by omega
      have hq3:¬ (q:Int)<0:=by omega
      have x7:=(Uh HC) q hq wr hbr
      have HXQ:Hid (∀ W,Below w.heap.size w W→W.cell? ⟨g,off+q,none⟩=some (.int .i32 (X.getD q 0))):=fun W hW=>(Uh HC) q hq W hW
      have K:Hid (∀ W,Below w.heap.size w W→Calls Tryz.prog 13 #[.slice ta tl tc,.int .i32 (X.getD q 0)] W (IntB W (j (X.getD q 0)))):=fun W hW=>(Uh KJ) q hq W hW
      have HLF:=Hd (Jn.lf_succ (j:=j) hq)
      have HLE:=Hd hlf
      have HBR:=Hd hbr
      have hqn:q≤n:=by omega
      clear hlf hbr
      generalize j (X.getD q 0)=z1 at *
      generalize X.getD q 0=c1 at *
      by_cases z5:z1=5
      ·subst z5
       have HL2:Hid (Jn.lf j X n=Jn.lf j X q):=(Uh HLE).trans (by rw [Uh HLF]; rfl)
       have hw4:IntKind.i64.wrap ((q:Int) - 1)=(q:Int) - 1:=by rw [IntKind.wrap_i64]; omega
       clear HLF HLE HXQ
       go_wp2_with fail
       refine ((Uh K) wr (Uh HBR)).mono ?_
       rintro e w2 ⟨rfl,b2⟩
       have HB2:=Hd (bthen (Uh HBR) b2)
       clear K b2 HBR x7
       go_wp2
       go_roundw
       case rel=>exact ⟨q,rfl,hqn,Uh HL2,Uh HB2⟩
       case measure=>simp [intOf] <;> omega
      ·have HL2:Hid (Jn.lf j X n=z1):=(Uh HLE).trans (by rw [Uh HLF,if_neg z5])
       have z5f:(z1==5)=false:=by rw [beq_eq_false_iff_ne]; exact z5
       clear HLF HLE
       go_wp2_with fail
       refine ((Uh K) wr (Uh HBR)).mono ?_
       rintro e w2 ⟨rfl,b2⟩
       have HB:=Hd (bthen (Uh HBR) b2)
       clear b2 HBR x7 z5
       have KL:=K
       clear K
       go_wp2
       go_loopw [8] (fun av wr=>∃ r:Nat,av=.int .i64 (r:Int)∧n<r∧r≤X.length∧Jn.rt j X (n+1)=Jn.rt j X r∧Below w.heap.size w wr) (fun av _=>X.length - (intOf av).toNat)
       case atStart=>exact ⟨n+1,by first | rfl | go_num,by omega,by omega,rfl,Uh HB⟩
       case round =>
        obtain ⟨r,rfl,hr1,hr2,hrt,hbr⟩:=hrel
        by_cases hlt:r<X.length
        ·have hL2:(r:Int)<X.length:=by omega
         have hr0:(0:Int)≤r:=by omega
         have x8:=(Uh HC) r hlt wr hbr
         have HXR:Hid (∀ W,Below w.heap.size w W→W.cell? ⟨g,off+r,none⟩=some (.int .i32 (X.getD r 0))):=fun W hW=>(Uh HC) r hlt W hW
         have KR:Hid (∀ W,Below w.heap.size w W→Calls Tryz.prog 13 #[.slice ta tl tc,.int .i32 (X.getD r 0)] W (IntB W (j (X.getD r 0)))):=fun W hW=>(Uh KJ) r hlt W hW
         have HRT:=Hd (Jn.rt_at (j:=j) hlt)
         have HRE:=Hd hrt
         have HBR:=Hd hbr
         clear hrt hbr
         generalize j (X.getD r 0)=z2 at *
         generalize X.getD r 0=c2 at *
         by_cases z5:z2=5
         ·subst z5
          have HR2:Hid (Jn.rt j X (n+1)=Jn.rt j X (r+1)):=(Uh HRE).trans (by rw [Uh HRT]; rfl)
          have hw5:IntKind.i64.wrap ((r:Int)+1)=(r:Int)+1:=by rw [IntKind.wrap_i64]; omega
          clear HRT HRE HXR
          go_wp2_with fail
          refine ((Uh KR) wr (Uh HBR)).mono ?_
          rintro e w3 ⟨rfl,b3⟩
          have HB3:=Hd (bthen (Uh HBR) b3)
          clear KR b3 HBR x8
          go_wp2
          go_roundw
          case rel=>exact ⟨r+1,by go_num,by omega,by omega,Uh HR2,Uh HB3⟩
          case measure=>simp [intOf] <;> omega
         ·have HR2:Hid (Jn.rt j X (n+1)=z2):=(Uh HRE).trans (by rw [Uh HRT,if_neg z5])
          have z5f:(z2==5)=false:=by rw [beq_eq_false_iff_ne]; exact z5
          have hrl:((r:Int)==(X.length:Int))=false:=by rw [beq_eq_false_iff_ne]; omega
          have hrl2:¬ r=X.length:=by omega
          clear HRT HRE
          go_wp2_with fail
          refine ((Uh KR) wr (Uh HBR)).mono ?_
          rintro e w3 ⟨rfl,b3⟩
          have HB3:=Hd (bthen (Uh HBR) b3)
          clear b3 HBR x8 z5
          go_wp2
          have x9:=(Uh HXQ) w3 (Uh HB3)
          have x10:=(Uh HXR) w3 (Uh HB3)
          have HBT2:Hid (bt=(Jn.lok z1 && Jn.rok z2)):=by
           show bt=_
           rw [Uh HBT,Uh HL2,Uh HR2]
          have hbd:=(Uh HB3).drew
          go_region_held3 (fun w'=>w'.cell? ⟨g,off+q,none⟩=some (.int .i32 c1)∧w'.cell? ⟨g,off+r,none⟩=some (.int .i32 c2)∧Below w.heap.size w w') (first | exact ⟨(Uh HXQ) _ (by assumption),(Uh HXR) _ (by assumption),by assumption⟩ | (have hbx:=bthen hbd (by assumption); exact ⟨(Uh HXQ) _ hbx,(Uh HXR) _ hbx,hbx⟩) | go_keep) (first | (go_at_call 13; refine ((Uh KL) _ (by assumption)).mono ?_; rintro e4 w4 ⟨rfl,b4⟩; have hb4:=bthen (by assumption:Below w.heap.size w _) b4) | (go_at_call 13; refine ((Uh KR) _ (by assumption)).mono ?_; rintro e5 w5 ⟨rfl,b5⟩; have hb5:=bthen (by assumption:Below w.heap.size w _) b5))
          have HB5:=Hd hb5
          clear hb5 hb4 b4 b5 hbd x9 x10 HXQ HXR KL KR
          by_cases ha:z1=2∨z1=3
          ·by_cases hb:z2=1∨z2=3
           ·have HB6:Hid (bt=true):=by
             show bt=true
             rw [Uh HBT2]; rcases ha with rfl | rfl <;> rcases hb with rfl | rfl <;> rfl
            rcases ha with rfl | rfl <;> rcases hb with rfl | rfl
            all_goals
             go_wp2
             go_ret
             exact ⟨by rw [Uh HB6]; rfl,Uh HB5⟩
           ·have n1:(z2==1)=false:=by rw [beq_eq_false_iff_ne]; exact fun h=>hb (.inl h)
            have n3:(z2==3)=false:=by rw [beq_eq_false_iff_ne]; exact fun h=>hb (.inr h)
            have HB6:Hid (bt=false):=by
             show bt=false
             rw [Uh HBT2,show Jn.rok z2=false by unfold Jn.rok; rw [decide_eq_false (fun h=>hb (.inl h)),decide_eq_false (fun h=>hb (.inr h))]; rfl]
             exact Bool.and_false _
            clear hb
            rcases ha with rfl | rfl
            all_goals
             go_wp2
             go_ret
             exact ⟨by rw [Uh HB6]; rfl,Uh HB5⟩
          ·have n2:(z1==2)=false:=by rw [beq_eq_false_iff_ne]; exact fun h=>ha (.inl h)
           have n3:(z1==3)=false:=by rw [beq_eq_false_iff_ne]; exact fun h=>ha (.inr h)
           have HB6:Hid (bt=false):=by
            show bt=false
            rw [Uh HBT2,show Jn.lok z1=false by unfold Jn.lok; rw [decide_eq_false (fun h=>ha (.inl h)),decide_eq_false (fun h=>ha (.inr h))]; rfl]
            exact Bool.false_and _
           clear ha
           go_wp2
           go_ret
           exact ⟨by rw [Uh HB6]; rfl,Uh HB5⟩
        ·obtain rfl:r=X.length:=by omega
         have HB3:=Hd hbr
         have HRE:=Hd hrt
         clear hrt hbr
         go_wp2
         have HBT0:Hid (bt=false):=by
          show bt=false
          rw [Uh HBT,Uh HRE,Jn.rt_end (Nat.le_refl _)]; exact Bool.and_false _
         rw [Uh HBT0]
         go_ret
         exact ⟨rfl,Uh HB3⟩
 ·have n4:(X.getD n 0 != 8204)=true:=by simpa using h1
  by_cases h2:X.getD n 0=8205
  ·rw [Jn.fit_zj h2]
   have HV0:Hid (n=0→Jn.vir cl X n=false):=fun h=>by rw [h]; rfl
   have HVS:Hid (∀ m,n=m+1→Jn.vir cl X n=decide (cl (X.getD m 0)=9)):=fun m h=>by rw [h]; exact Jn.vir_succ (by omega)
   have H2:=Hd h2
   rw [h2] at x4
   clear n4 h1 h2 KJ
   generalize Jn.vir cl X n=vb at *
   rcases Nat.eq_zero_or_pos n with hp | hp
   ·subst hp
    have hvb:=(Uh HV0) rfl
    rw [hvb]
    clear HV0 HVS KC hvb
    rw [Nat.add_zero] at x4
    have h0a:(0:Int)<X.length:=by omega
    have h0b:¬ X.length=0:=by omega
    have h0c:¬ X=[]:=fun h=>h0b (by rw [h]; rfl)
    clear hL
    show Calls _ _ #[_,_,.int .i64 (0:Int)] _ _
    go_enter Tryz.func10,Tryz.ntmps10
    go_wp2
    go_ret
    exact ⟨rfl,Below.refl _ _⟩
   ·obtain ⟨m,hm⟩:∃ m,n=m+1:=⟨n - 1,by omega⟩
    have hvb:=(Uh HVS) m hm
    have K:=(Uh KC) m (by omega) w (Below.refl _ _)
    have x5:=(Uh HC) m (by omega) w (Below.refl _ _)
    clear HV0 HVS KC
    have hw1:IntKind.i64.wrap ((n:Int) - 1)=(m:Int):=by rw [IntKind.wrap_i64]; omega
    have hm2:(m:Int)<X.length:=by omega
    have hm1:(0:Int)≤m:=by omega
    have hp1:(0:Int)<n:=by omega
    have hp2:¬ (n:Int)<0:=by omega
    have K:=Hd K
    clear hm
    generalize cl (X.getD m 0)=z at *
    generalize X.getD m 0=c at *
    by_cases hz:z=9
    ·subst hz
     have hvb2:vb=true:=hvb
     rw [hvb2]
     clear hvb hvb2
     go_enter Tryz.func10,Tryz.ntmps10
     go_wp2_with fail
     refine (Uh K).mono ?_
     rintro e w1 ⟨rfl,b1⟩
     have HB:=Hd b1
     clear K b1
     go_wp2
     go_ret
     exact ⟨rfl,Uh HB⟩
    ·rw [hvb,decide_eq_false hz]
     have z9:(z==9)=false:=by rw [beq_eq_false_iff_ne]; exact hz
     clear hvb hz
     go_enter Tryz.func10,Tryz.ntmps10
     go_wp2_with fail
     refine (Uh K).mono ?_
     rintro e w1 ⟨rfl,b1⟩
     have x6:=(Uh HC) n hn w1 b1
     rw [Uh H2] at x6
     have HB:=Hd b1
     clear K b1 x4 x5
     go_wp2
     go_ret
     exact ⟨rfl,Uh HB⟩
  ·have n5:(X.getD n 0 != 8205)=true:=by simpa using h2
   rw [Jn.fit_no h1 h2]
   clear h1 h2 KJ KC HC
   generalize X.getD n 0=c at *
   go_enter Tryz.func10,Tryz.ntmps10
   go_wp2
   go_ret
   exact ⟨rfl,Below.refl _ _⟩
theorem refFits_any16 (ta:Option Addr) (tl tc:Nat) {cl j:Int→Int} {xv:Value} {X:List Int} (w:World) (hC:RPropC16 21 w (.slice ta tl tc) cl) (hJ:RPropC16 13 w (.slice ta tl tc) j) (hx:Sk .i32 w xv X) (i:Int) (hi:-9223372036854775808≤i∧i≤9223372036854775807):Calls Tryz.prog 10 #[.slice ta tl tc,xv,.int .i64 i] w (Tells w (Jn.fiti cl j X i)):=by
 by_cases h:i<0∨(X.length:Int)≤i
 ·exact refFits_out16 _ w hx i hi h
 ·obtain ⟨n,rfl⟩:∃ n:Nat,i=n:=⟨i.toNat,by omega⟩
  have e:Jn.fiti cl j X n=Jn.fit cl j X n:=by unfold Jn.fiti; rw [decide_eq_true (by omega),decide_eq_true (p:=(n:Int)<X.length) (by omega),Int.toNat_natCast]; rfl
  rw [e]
  exact refFits_in16 ta tl tc w hC hJ hx n (by omega)
set_option maxRecDepth 8000 in
set_option maxHeartbeats 2000000 in
theorem refCheck_any16 (ta:Option Addr) (tl tc:Nat) {cl j:Int→Int} {xv:Value} {X:List Int} (w:World) (hC:RPropC16 21 w (.slice ta tl tc) cl) (hJ:RPropC16 13 w (.slice ta tl tc) j) (hx:Sk .i32 w xv X):Calls Tryz.prog 12 #[.slice ta tl tc,xv] w (IntT16 w (Jn.chk cl j X)):=by
 have hlen:=hx.len
 have KF:Hid (∀ (i:Nat),i<X.length→∀ W,Below w.heap.size w W→Calls Tryz.prog 10 #[.slice ta tl tc,xv,.int .i64 i] W (Tells W (Jn.fit cl j X i))):=fun i hi W hW=>refFits_in16 ta tl tc W (fun c hc W' hW'=>hC c hc W' (bthen hW hW')) (fun c hc W' hW'=>hJ c hc W' (bthen hW hW')) (hx.below hW) i hi
 have HEND:Hid ((∀ q,q<X.length→Jn.fit cl j X q=true)→∀ W,Below w.heap.size w W→IntT16 w (Jn.chk cl j X) (.returned (.int .i64 (-1))) W):=fun h W hW=>⟨by rw [Jn.chk_none h],hW⟩
 have HNO:Hid (∀ k,k<X.length→(∀ q,q<k→Jn.fit cl j X q=true)→Jn.fit cl j X k=false→∀ W,Below w.heap.size w W→IntT16 w (Jn.chk cl j X) (.returned (.int .i64 k)) W):=fun k hk h hn W hW=>⟨by rw [Jn.chk_some hk h hn],hW⟩
 obtain ⟨ao,cap,rfl,_,_⟩:=hx.shape
 clear hC hJ hx
 generalize Jn.chk cl j X=ck at *
 go_enter Tryz.func12,Tryz.ntmps12
 go_wp2
 go_loopw [4,5] (fun rv iv wr=>∃ k:Nat,rv=.int .i64 0∧iv=.int .i64 (k:Int)∧k≤X.length∧(∀ q,q<k→Jn.fit cl j X q=true)∧Below w.heap.size w wr) (fun _ iv _=>X.length - (intOf iv).toNat)
 case atStart=>exact ⟨0,rfl,rfl,Nat.zero_le _,fun q h=>absurd h (by omega),Below.refl _ _⟩
 case round =>
  obtain ⟨k,rfl,rfl,hk,hq,hb⟩:=hrel
  by_cases hlt:k<X.length
  ·have hL:(k:Int)<X.length:=by omega
   have K:=Hd ((Uh KF) k hlt wr hb)
   have HQ:=Hd hq
   have HBK:=Hd hb
   clear hq hb
   cases hf:Jn.fit cl j X k with
   | true =>
    rw [hf] at K
    have HQ2:Hid (∀ q,q<k+1→Jn.fit cl j X q=true):=fun q h=>by
     rcases Nat.lt_or_ge q k with h1 | h1
     ·exact (Uh HQ) q h1
     ·rw [show q=k by omega]; exact hf
    clear hf HQ
    go_wp2_with fail
    refine (Uh K).mono ?_
    rintro e w1 ⟨rfl,b1⟩
    have HB:=Hd (bthen (Uh HBK) b1)
    clear K b1 HBK
    go_wp2
    go_roundw
    case rel=>exact ⟨k+1,rfl,by go_num,by omega,Uh HQ2,Uh HB⟩
    case measure=>simp [intOf] <;> omega
   | false =>
    rw [hf] at K
    have HN:=Hd ((Uh HNO) k hlt (Uh HQ) hf)
    clear hf HQ
    go_wp2_with fail
    refine (Uh K).mono ?_
    rintro e w1 ⟨rfl,b1⟩
    have HF:=Hd ((Uh HN) w1 (bthen (Uh HBK) b1))
    clear K b1 HN HBK
    go_wp2
    go_ret
    exact Uh HF
  ·have HF:=Hd ((Uh HEND) (fun q h=>hq q (by omega)) wr hb)
   have hL:¬ ((k:Int)<X.length):=by omega
   clear hq hb HEND HNO KF
   go_wp2
   go_ret
   exact Uh HF
end Go.Proofs.YthhekhkbbkemjaaGreatDoor
