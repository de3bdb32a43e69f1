/- Bc17 -/
import Derived.Test.YtdjpjgjhiibpkaaGreatDoorW3
namespace Go.Proofs.YtdjpjgjhiibpkaaGreatDoor
open Go.RowKit
theorem infoI17:(Tryz.prog.info? 3).map (fun i=>(i.zero,i.size,i.bytes))=some (some (.int .i64 0),1,8):=by kernel_rfl
theorem lit_int17 (W:World) (zs:List Int) (n:Nat) (hn:zs.length=n) (h0:0<n) (hs:n≤100) (C:Array Value) (hC:C=(zs.map (Value.int .i64)).toArray) (hz:∀ z∈zs,-9223372036854775808≤z∧z≤9223372036854775807):Sk .i64 (W.alloc (.cells C 3)) (.slice (some ⟨W.heap.size,0,none⟩) n n) zs:=by
 have h:Ok .i64 3 (W.alloc (.cells C 3)) W.heap.size (.slice (some ⟨W.heap.size,0,none⟩) n n) zs:=by
  refine Ok.of (n:=n) (us:=zs.map (Value.int .i64)) (fun z h=>hz z h) (by omega) ⟨by simp [hn],Or.inr ⟨W.heap.size,n,C,rfl,Nat.le_refl _,World.alloc_heap_new W _,Nat.le_refl _,by unfold maxLen; omega,by rw [hC]; simp [hn],by rw [hC]; exact List.take_of_length_le (by simp [hn])⟩⟩ hn.symm rfl
 exact h.sk
theorem app_i17 {w:World} {ops:Array Oper} {rest:List Oper} {o:Oper} {a:Act} {Q:Exit→Act→World→Prop} (hgd:o.guard=none) (s x:Operand)
  (ho:o.op=.call { callee:=.builtin .append,args:=#[s,x],argTypes:=#[62,62] }) (B:Nat) (v u:Value) (xs ys:List Int) (hs:a.eval s=v) (hx:a.eval x=u)
  (hv:Ok .i64 3 w B v xs) (hu:Sk .i64 w u ys) (hy:0<ys.length) (hl:xs.length+ys.length≤1000000000) (hB:B≤w.heap.size)
  (h:∀ v' w',Ok .i64 3 w' B v' (xs++ys)→w.grownBy w' v.ownBlock→wpList Tryz.prog ops Q rest (a.put o.dst v') w'):wpList Tryz.prog ops Q (o :: rest) a w:=by
 obtain ⟨i0,hi,hz0,hz1,hz2⟩:=info_parts infoI17
 rcases hu.2.src with ⟨h0,rfl⟩ | ⟨ad,cap,hve,hcells⟩
 ·rw [List.map_eq_nil_iff] at h0
  rw [h0] at hy; cases hy
 ·rw [List.length_map] at hve
  subst hve
  refine wpList_append_own w hgd s x 62 ho B 3 i0 (.int .i64 0) 1 8 Tryz.underlying62 hi hz0 hz1 hz2 rfl (by decide) v _ _ hs hv.row ad ys.length cap (ys.map (Value.int .i64)) hx (by simp) hcells (ints_one .i64 ys) (by unfold maxLen; omega) (by omega) hB ?_
  intro v' w' h1 h2 _
  exact h v' w' (Ok.of (hv.1.app hu.1) (by simp; omega) h1 (by simp) (by simp)) h2
theorem am3_17 (n:Int):([1,2,3].any fun k:Int=>decide (k=n))=Bd.rtl n:=by
 show (decide (1=n) || (decide (2=n) || (decide (3=n) || false)))=_
 unfold Bd.rtl
 rw [Bool.or_false]
 congr 1
 ·exact decide_eq_decide.2 eq_comm
 ·congr 1 <;> exact decide_eq_decide.2 eq_comm
theorem am0_17 (n:Int):([0,1,2].any fun k:Int=>decide (k=n))=decide (n=0∨n=1∨n=2):=by
 by_cases h:n=0∨n=1∨n=2
 ·rw [decide_eq_true h]; rcases h with rfl | rfl | rfl <;> rfl
 ·rw [decide_eq_false h]
  show (decide (0=n) || (decide (1=n) || (decide (2=n) || false)))=false
  rw [decide_eq_false (by omega),decide_eq_false (p:=1=n) (by omega),decide_eq_false (p:=2=n) (by omega)]; rfl
theorem am4_17 (n:Int):([1,2,4,3].any fun k:Int=>decide (k=n))=decide (n=1∨n=2∨n=4∨n=3):=by
 by_cases h:n=1∨n=2∨n=4∨n=3
 ·rw [decide_eq_true h]; rcases h with rfl | rfl | rfl | rfl <;> rfl
 ·rw [decide_eq_false h]
  show (decide (1=n) || (decide (2=n) || (decide (4=n) || (decide (3=n) || false))))=false
  rw [decide_eq_false (by omega),decide_eq_false (p:=2=n) (by omega),decide_eq_false (p:=4=n) (by omega),decide_eq_false (p:=3=n) (by omega)]; rfl
set_option maxRecDepth 8000 in
set_option maxHeartbeats 8000000 in
theorem refRules17 (ta:Option Addr) (tl tc:Nat) {bd:Int→Int} {xv:Value} {X:List Int} (w:World) (hB:RPropC17 25 w (.slice ta tl tc) bd) (hbd:∀ c,-9223372036854775808≤bd c∧bd c≤9223372036854775807) (hx:Sk .i32 w xv X) (hXl:X.length≤1000000):Calls Tryz.prog 12 #[.slice ta tl tc,xv] w (IntB w (Bd.rules (X.map bd))):=by
 rcases Nat.eq_zero_or_pos X.length with h0 | h0
 ·have e:Bd.rules (X.map bd)=0:=by unfold Bd.rules; rw [if_pos (by rw [List.length_map]; exact h0)]
  rw [e]
  obtain ⟨ao,cap,rfl,_,_⟩:=hx.shape
  rw [h0]
  clear hB hx
  go_enter Tryz.func12,Tryz.ntmps12
  go_wp2
  go_ret
  exact ⟨rfl,Below.refl _ _⟩
 ·obtain ⟨b,off,cap,rfl,_,_,hc⟩:=hx.place h0
  have KB:Hid (∀ (k:Nat),k<X.length→∀ W,Below w.heap.size w W→Calls Tryz.prog 25 #[.slice ta tl tc,.int .i32 (X.getD k 0)] W (IntB W (bd (X.getD k 0)))):=fun k hk W hW=>hB _ (rune_of hx hk) W hW
  have HC:Hid (∀ (k:Nat),k<X.length→∀ W,Below w.heap.size w W→W.cell? ⟨b,off+k,none⟩=some (.int .i32 (X.getD k 0))):=fun k hk W hW=>by rw [hW.cell (lt_of_cell? (hc k hk))]; exact hc k hk
  have HTK:Hid (∀ k,k<X.length→(X.map bd).take (k+1)=(X.map bd).take k++[bd (X.getD k 0)]):=fun k hk=>by
   rw [Bd.take_snoc (by rw [List.length_map]; exact hk),map_get17 hk]
  have HBD:=Hd hbd
  have hKl:(X.map bd).length=X.length:=List.length_map _
  have hX1:¬ (X.length:Int)=0:=by omega
  have hX2:¬ X.length=0:=by omega
  have hX3:¬ X=[]:=fun h=>hX2 (by rw [h]; rfl)
  have hX4:((X.length:Int)==0)=false:=by rw [beq_eq_false_iff_ne]; exact hX1
  have HKL:=Hd hKl
  clear hB hx hc hbd hKl
  generalize X.map bd=K at *
  go_enter Tryz.func12,Tryz.ntmps12
  go_wp2
  go_loopw [5,6] (fun kv iv wr=>∃ k:Nat,iv=.int .i64 k∧k≤X.length∧Ok .i64 3 wr w.heap.size kv (K.take k)∧Below w.heap.size w wr) (fun _ iv _=>X.length - (intOf iv).toNat)
  case atStart=>exact ⟨0,rfl,by omega,Ok.nil _ _ _ _,Below.refl _ _⟩
  case round =>
   obtain ⟨k,rfl,hk,hok,hbr⟩:=hrel
   obtain ⟨ka,kc,hkv,hkc1,hkc2⟩:=hok.sk.shape
   subst hkv
   by_cases hlt:k<X.length
   ·have hL:(k:Int)<X.length:=by omega
    have x4:=(Uh HC) k hlt wr hbr
    have KK:=Hd ((Uh KB) k hlt wr hbr)
    have htk:(K.take k).length≤1000000:=by rw [List.length_take]; omega
    have HT:=Hd ((Uh HTK) k hlt)
    have hz:=(Uh HBD) (X.getD k 0)
    have HOK:=Hd hok
    have HBR:=Hd hbr
    clear hok hbr
    obtain ⟨z,hze⟩:∃ z,bd (X.getD k 0)=z:=⟨_,rfl⟩
    rw [hze] at KK HT hz
    clear hze
    obtain ⟨c,hce⟩:∃ c,X.getD k 0=c:=⟨_,rfl⟩
    rw [hce] at KK x4
    clear hce
    obtain ⟨P,hP⟩:∃ P,K.take k=P:=⟨_,rfl⟩
    rw [hP] at HOK HT htk ⊢
    clear hP
    go_wp2_with fail
    refine (Uh KK).mono ?_
    rintro e w1 ⟨rfl,b1⟩
    have HO1:=Hd ((Uh HOK).below b1)
    have HB1:=Hd (bthen (Uh HBR) b1)
    have hsz:=(Uh HB1).size
    clear KK b1 HOK HBR x4
    go_wp2_with (at_builtin; refine app_i17 rfl (.tmp 20) (.tmp 27) rfl w.heap.size _ _ P [z] rfl rfl (ok_alloc15 (Uh HO1) _) (lit_int17 w1 [z] 1 rfl (by omega) (by omega) _ rfl (fun y hy=>by simp at hy; subst hy; exact hz)) (Nat.succ_pos _) (by simp; omega) (by rw [alloc_size15]; omega) ?_)
    intro v2 w2 ok2 g2
    have b2:Below w.heap.size w w2:=((Uh HB1).alloc hsz _).grown g2 (by rw [alloc_size15]; omega) (fun q hq=>((Uh HO1).2.2.lt q hq).1)
    rw [← Uh HT] at ok2
    have HO2:=Hd ok2
    have HB2:=Hd b2
    obtain ⟨ka2,kc2,hkv2,_,_⟩:=ok2.sk.shape
    subst hkv2
    clear ok2 g2 b2 HO1 HB1 HT
    go_wp2
    go_roundw
    case rel=>exact ⟨k+1,by go_num,by omega,Uh HO2,Uh HB2⟩
    case measure=>simp [intOf]; omega
   ·obtain rfl:k=X.length:=by omega
    rw [List.take_of_length_le (by rw [Uh HKL]; exact Nat.le_refl _)] at hok hkc1 ⊢
    have hpl:=hok.sk.place (by rw [Uh HKL]; exact h0)
    rw [Uh HKL] at hok hkc1 hpl ⊢
    obtain ⟨kb,koff,kcp,he,_,_,hkc⟩:=hpl
    simp only [Value.slice.injEq] at he
    obtain ⟨rfl,-,rfl⟩:=he
    have HSK:=Hd hok.sk
    obtain ⟨wo,hwo⟩:∃ wo,wo=wr:=⟨_,rfl⟩
    subst hwo
    have HKC:Hid (∀ q,q<X.length→∀ W,Below wo.heap.size wo W→W.cell? ⟨kb,koff+q,none⟩=some (.int .i64 (K.getD q 0))):=fun q hq W hW=>by rw [hW.cell (lt_of_cell? (hkc q hq))]; exact hkc q hq
    have x0:=(Uh HKC) 0 h0 wo (Below.refl _ _)
    rw [Nat.add_zero] at x0
    have HBO:=Hd hbr
    have K1:=Hd (among17 (K.getD 0 0) _ [0,1,2] _ (lit_int17 wo [0,1,2] 3 rfl (by omega) (by omega) #[.int .i64 0,.int .i64 1,.int .i64 2] rfl (by simp)))
    rw [am0_17] at K1
    have HBW:Hid (Below wo.heap.size wo (wo.alloc (.cells #[.int .i64 0,.int .i64 1,.int .i64 2] 3))):=(Below.refl _ _).alloc (Nat.le_refl _) _
    have HR1:Hid (¬ (K.getD 0 0=0∨K.getD 0 0=1∨K.getD 0 0=2)→Bd.rules K=1):=fun h=>by unfold Bd.rules; rw [if_neg (by rw [Uh HKL]; exact hX2),if_pos h]
    have HRL:Hid (K.getD 0 0=0→Bd.rules K=Bd.r5 K+Bd.r6 K):=fun h=>by unfold Bd.rules; rw [if_neg (by rw [Uh HKL]; exact hX2),if_neg (by rw [h]; simp),if_pos h]
    have HRR:Hid ((K.getD 0 0=1∨K.getD 0 0=2)→Bd.rules K=Bd.r2 K+Bd.r3 K+Bd.r4 K):=fun h=>by unfold Bd.rules; rw [if_neg (by rw [Uh HKL]; exact hX2),if_neg (fun h2=>h2 (.inr h)),if_neg (by omega)]
    have HLN:Hid (K.getD 0 0≠10→Bd.lst K≠10):=fun h=>Bd.lst_ne (by rw [Uh HKL]; exact h0) h
    have HLT:Hid (∀ q,q<X.length→Bd.lst (K.take (q+1))=if K.getD q 0=10 then Bd.lst (K.take q) else K.getD q 0):=fun q hq=>Bd.lst_take (by rw [Uh HKL]; exact hq)
    have HTL:Hid (K.take X.length=K):=List.take_of_length_le (by rw [Uh HKL]; exact Nat.le_refl _)
    have HAT:Hid (∀ (f:Int→Bool) i,i<X.length→(K.take (i+1)).any f=((K.take i).any f || f (K.getD i 0))):=fun f i hi=>Bd.any_take (by rw [Uh HKL]; exact hi)
    clear hok hbr hkc KB HC HTK HBD
    obtain ⟨k0,hk0⟩:∃ k0,K.getD 0 0=k0:=⟨_,rfl⟩
    rw [hk0] at x0 K1 HR1 HRL HRR HLN
    have HK0:=Hd hk0
    clear hk0
    generalize Bd.rules K=R at *
    by_cases h012:k0=0∨k0=1∨k0=2
    ·rw [decide_eq_true h012] at K1
     go_wp2_with fail
     refine (Uh K1).mono ?_
     rintro e w3 ⟨rfl,hw3⟩
     have HW:Hid (Below wo.heap.size wo w3):=by rw [hw3]; exact Uh HBW
     have x1:=(Uh HKC) 0 h0 w3 (Uh HW)
     rw [Nat.add_zero,Uh HK0] at x1
     clear K1 HBW hw3 HR1 x0
     have hlne:=(Uh HLN) (by omega)
     have hw6:IntKind.i64.wrap ((X.length:Int) - 1)=(X.length:Int) - 1:=by rw [IntKind.wrap_i64]; omega
     clear HLN
     go_wp2
     go_loopw [7] (fun lv wr=>∃ q:Nat,lv=.int .i64 ((q:Int) - 1)∧q≤X.length∧Bd.lst K=Bd.lst (K.take q)∧wr=w3) (fun lv _=>(intOf lv+1).toNat)
     case atStart=>exact ⟨X.length,rfl,Nat.le_refl _,by rw [Uh HTL],rfl⟩
     case round =>
      obtain ⟨q,rfl,hq,hlq,rfl⟩:=hrel
      cases q with
      | zero=>exact absurd (hlq.trans rfl) hlne
      | succ m =>
       rw [show (((m+1:Nat):Int) - 1)=(m:Int) by omega]
       have hm1:(m:Int)<X.length:=by omega
       have hm2:(0:Int)≤m:=by omega
       have x2:=(Uh HKC) m (by omega) wr (Uh HW)
       rw [(Uh HLT) m (by omega)] at hlq
       have hw7:IntKind.i64.wrap ((m:Int) - 1)=(m:Int) - 1:=by rw [IntKind.wrap_i64]; omega
       by_cases h10:K.getD m 0=10
       ·rw [if_pos h10] at hlq
        rw [h10] at x2
        have HLQ:=Hd hlq
        clear hlq h10
        go_wp2
        go_roundw
        case rel=>exact ⟨m,rfl,by omega,Uh HLQ,by first | rfl | trivial⟩
        case measure=>simp [intOf] <;> omega
       ·rw [if_neg h10] at hlq
        have n10:(K.getD m 0==10)=false:=by rw [beq_eq_false_iff_ne]; exact h10
        have HLS:=Hd hlq
        have HXL:Hid (∀ W,Below wo.heap.size wo W→W.cell? ⟨kb,koff+m,none⟩=some (.int .i64 (K.getD m 0))):=fun W hW=>(Uh HKC) m (by omega) W hW
        clear hlq h10 HLT hlne
        obtain ⟨kl,hkl⟩:∃ kl,K.getD m 0=kl:=⟨_,rfl⟩
        rw [hkl] at x2 n10 HLS HXL
        clear hkl
        by_cases hz:k0=0
        ·subst hz
         have HT:=Hd ((Uh HRL) rfl)
         clear HRL HRR h012
         go_wp2
         have HX0:Hid (∀ W,Below wo.heap.size wo W→W.cell? ⟨kb,koff+m,none⟩=some (.int .i64 kl)):=HXL
         go_loopw [8,9] (fun ov iv wq=>∃ i:Nat,ov=.int .i64 (if (K.take i).any Bd.rtl=true then 16 else 0)∧iv=.int .i64 i∧i≤X.length∧Below wo.heap.size wo wq) (fun _ iv _=>X.length - (intOf iv).toNat)
         case atStart=>exact ⟨0,rfl,rfl,by omega,Uh HW⟩
         case round =>
          obtain ⟨i,rfl,rfl,hi,hbq⟩:=hrel
          by_cases hil:i<X.length
          ·have hiL:(i:Int)<X.length:=by omega
           have x5:=(Uh HKC) i hil wr hbq
           have HA:=Hd ((Uh HAT) Bd.rtl i hil)
           have KA:=Hd (among17 (K.getD i 0) _ [1,2,3] _ (lit_int17 wr [1,2,3] 3 rfl (by omega) (by omega) #[.int .i64 1,.int .i64 2,.int .i64 3] rfl (by simp)))
           rw [am3_17] at KA
           have HBQ:Hid (Below wo.heap.size wo (wr.alloc (.cells #[.int .i64 1,.int .i64 2,.int .i64 3] 3))):=hbq.alloc hbq.size _
           clear hbq
           obtain ⟨rb,hrb⟩:∃ rb,Bd.rtl (K.getD i 0)=rb:=⟨_,rfl⟩
           rw [hrb] at KA HA
           clear hrb
           obtain ⟨ki,hki⟩:∃ ki,K.getD i 0=ki:=⟨_,rfl⟩
           rw [hki] at x5 KA
           clear hki
           obtain ⟨ob,hob⟩:∃ ob,(K.take i).any Bd.rtl=ob:=⟨_,rfl⟩
           rw [hob] at HA ⊢
           clear hob
           have o1:bits BinOp.or IntKind.i64 0 16=16:=by decide
           have o2:bits BinOp.or IntKind.i64 16 16=16:=by decide
           have HRES:Hid (∀ W,Below wo.heap.size wo W→∃ i':Nat,Value.int .i64 (if (ob || rb)=true then 16 else 0)=.int .i64 (if (K.take i').any Bd.rtl=true then 16 else 0)∧Value.int .i64 ((i:Int)+1)=.int .i64 i'∧i'≤X.length∧Below wo.heap.size wo W):=fun W hW=>⟨i+1,by rw [Uh HA],by congr 1,by omega,hW⟩
           cases ob <;> cases rb
           all_goals
            go_wp2_with fail
            refine (Uh KA).mono ?_
            rintro e w4 ⟨rfl,hw4⟩
            have HB4:Hid (Below wo.heap.size wo w4):=by rw [hw4]; exact Uh HBQ
            clear KA hw4 HBQ x5
            go_wp2
            go_roundw
            case rel=>exact (Uh HRES) _ (Uh HB4)
            case measure=>simp [intOf]; omega
          ·obtain rfl:i=X.length:=by omega
           have x6:=(Uh HX0) wr hbq
           have HBE:=Hd (bthen (Uh HBO) hbq)
           have HR5:Hid ((if (K.take X.length).any Bd.rtl=true then 16 else 0)=Bd.r5 K):=by
            show (if (K.take X.length).any Bd.rtl=true then (16:Int) else 0)=Bd.r5 K
            rw [Uh HTL]; rfl
           rw [Uh HR5]
           have hr5:Bd.r5 K=0∨Bd.r5 K=16:=by unfold Bd.r5; split <;> simp
           have HR6:Hid (Bd.r6 K=if kl=0∨kl=4 then 0 else 32):=by
            show Bd.r6 K=_
            unfold Bd.r6; rw [Uh HLS]
           clear hbq HAT HKC HR5
           obtain ⟨p5,hp5⟩:∃ p5,Bd.r5 K=p5:=⟨_,rfl⟩
           rw [hp5] at hr5 HT ⊢
           clear hp5
           have o3:bits BinOp.or IntKind.i64 0 32=32:=by decide
           have o4:bits BinOp.or IntKind.i64 16 32=48:=by decide
           by_cases hk4:kl=0∨kl=4
           ·have HF:Hid (R=p5):=by
             show R=p5
             rw [Uh HT,Uh HR6,if_pos hk4]; omega
            clear HT HR6
            rcases hk4 with rfl | rfl
            all_goals
             go_wp2
             go_ret
             exact ⟨by rw [Uh HF]; rfl,Uh HBE⟩
           ·have HF:Hid (R=p5+32):=by
             show R=p5+32
             rw [Uh HT,Uh HR6,if_neg hk4]
            have m0:(kl != 0)=true:=by simp; omega
            have m4:(kl != 4)=true:=by simp; omega
            clear HT HR6 hk4
            rcases hr5 with rfl | rfl
            all_goals
             go_wp2
             go_ret
             exact ⟨by rw [Uh HF]; rfl,Uh HBE⟩
        ·have hz2:k0=1∨k0=2:=by omega
         have nz:(k0==0)=false:=by rw [beq_eq_false_iff_ne]; exact hz
         have HT:=Hd ((Uh HRR) hz2)
         clear HRL HRR h012 hz hz2
         go_wp2
         go_loopw [8,10] (fun ov iv wq=>∃ i:Nat,ov=.int .i64 (if (K.take i).any (fun k=>decide (k=0))=true then 2 else 0)∧iv=.int .i64 i∧i≤X.length∧Below wo.heap.size wo wq) (fun _ iv _=>X.length - (intOf iv).toNat)
         case atStart=>exact ⟨0,rfl,rfl,by omega,Uh HW⟩
         case round =>
          obtain ⟨i,rfl,rfl,hi,hbq⟩:=hrel
          by_cases hil:i<X.length
          ·have hiL:(i:Int)<X.length:=by omega
           have x5:=(Uh HKC) i hil wr hbq
           have HA:=Hd ((Uh HAT) (fun k=>decide (k=0)) i hil)
           have HBQ:=Hd hbq
           clear hbq
           obtain ⟨ki,hki⟩:∃ ki,K.getD i 0=ki:=⟨_,rfl⟩
           rw [hki] at x5 HA
           clear hki
           obtain ⟨ob,hob⟩:∃ ob,(K.take i).any (fun k=>decide (k=0))=ob:=⟨_,rfl⟩
           rw [hob] at HA ⊢
           clear hob
           have o1:bits BinOp.or IntKind.i64 0 2=2:=by decide
           have o2:bits BinOp.or IntKind.i64 2 2=2:=by decide
           have HRES:Hid (∀ W,Below wo.heap.size wo W→∃ i':Nat,Value.int .i64 (if (ob || decide (ki=0))=true then 2 else 0)=.int .i64 (if (K.take i').any (fun k=>decide (k=0))=true then 2 else 0)∧Value.int .i64 ((i:Int)+1)=.int .i64 i'∧i'≤X.length∧Below wo.heap.size wo W):=fun W hW=>⟨i+1,by rw [Uh HA],by congr 1,by omega,hW⟩
           by_cases hk:ki=0
           ·subst hk
            rw [decide_eq_true rfl] at HRES
            clear HA
            cases ob
            all_goals
             go_wp2
             go_roundw
             case rel=>exact (Uh HRES) _ (Uh HBQ)
             case measure=>simp [intOf]; omega
           ·rw [decide_eq_false hk] at HRES
            have nk:(ki==0)=false:=by rw [beq_eq_false_iff_ne]; exact hk
            clear HA hk
            cases ob
            all_goals
             go_wp2
             go_roundw
             case rel=>exact (Uh HRES) _ (Uh HBQ)
             case measure=>simp [intOf]; omega
          ·obtain rfl:i=X.length:=by omega
           have x6:=(Uh HXL) wr hbq
           have HBE:=Hd hbq
           have HR2:Hid ((if (K.take X.length).any (fun k=>decide (k=0))=true then 2 else 0)=Bd.r2 K):=by
            show (if (K.take X.length).any (fun k=>decide (k=0))=true then (2:Int) else 0)=Bd.r2 K
            rw [Uh HTL]; rfl
           rw [Uh HR2]
           have hr2:Bd.r2 K=0∨Bd.r2 K=2:=by unfold Bd.r2; split <;> simp
           have HR3:Hid (Bd.r3 K=if kl=1∨kl=2∨kl=4∨kl=3 then 0 else 4):=by
            show Bd.r3 K=_
            unfold Bd.r3; rw [Uh HLS]
           have HR4:Hid (Bd.r4 K=if (K.any fun k=>decide (k=4))=true∧(K.any fun k=>decide (k=3))=true then 8 else 0):=rfl
           have KA:=Hd (among17 kl _ [1,2,4,3] _ (lit_int17 wr [1,2,4,3] 4 rfl (by omega) (by omega) #[.int .i64 1,.int .i64 2,.int .i64 4,.int .i64 3] rfl (by simp)))
           rw [am4_17] at KA
           have HBQ:Hid (Below wo.heap.size wo (wr.alloc (.cells #[.int .i64 1,.int .i64 2,.int .i64 4,.int .i64 3] 3))):=hbq.alloc hbq.size _
           have KE:Hid (∀ W,Below wo.heap.size wo W→Calls Tryz.prog 27 #[.int .i64 4,.slice (some ⟨kb,koff,none⟩) X.length kc] W (fun e w'=>e=.returned (.bool (K.any fun k=>decide (k=4)))∧w'=W)):=fun W hW=>among17 4 _ K W ((Uh HSK).below hW)
           have KN:Hid (∀ W,Below wo.heap.size wo W→Calls Tryz.prog 27 #[.int .i64 3,.slice (some ⟨kb,koff,none⟩) X.length kc] W (fun e w'=>e=.returned (.bool (K.any fun k=>decide (k=3)))∧w'=W)):=fun W hW=>among17 3 _ K W ((Uh HSK).below hW)
           clear hbq HAT HKC HR2 HBE HSK
           obtain ⟨p2,hp2⟩:∃ p2,Bd.r2 K=p2:=⟨_,rfl⟩
           rw [hp2] at hr2 HT ⊢
           clear hp2
           obtain ⟨b4,hb4⟩:∃ b4,(K.any fun k=>decide (k=4))=b4:=⟨_,rfl⟩
           obtain ⟨b3,hb3⟩:∃ b3,(K.any fun k=>decide (k=3))=b3:=⟨_,rfl⟩
           rw [hb4] at HR4 KE
           rw [hb3] at HR4 KN
           clear hb4 hb3
           obtain ⟨q4,hq4⟩:∃ q4,Bd.r4 K=q4:=⟨_,rfl⟩
           rw [hq4] at HR4 HT
           obtain ⟨q3,hq3⟩:∃ q3,Bd.r3 K=q3:=⟨_,rfl⟩
           rw [hq3] at HR3 HT
           clear hq4 hq3
           have a1:bits BinOp.or IntKind.i64 0 4=4:=by decide
           have a2:bits BinOp.or IntKind.i64 2 4=6:=by decide
           have a3:bits BinOp.or IntKind.i64 0 8=8:=by decide
           have a4:bits BinOp.or IntKind.i64 2 8=10:=by decide
           have a5:bits BinOp.or IntKind.i64 4 8=12:=by decide
           have a6:bits BinOp.or IntKind.i64 6 8=14:=by decide
           obtain ⟨db,hdb⟩:∃ db,decide (kl=1∨kl=2∨kl=4∨kl=3)=db:=⟨_,rfl⟩
           have H3:Hid (q3=if db=true then 0 else 4):=by
            show q3=_
            rw [Uh HR3,← hdb]
            by_cases h:kl=1∨kl=2∨kl=4∨kl=3
            ·rw [if_pos h,decide_eq_true h]; rfl
            ·rw [if_neg h,decide_eq_false h]; rfl
           rw [hdb] at KA
           clear hdb HR3
           have HRR2:Hid (R=p2+(if db=true then 0 else 4)+(if b4=true∧b3=true then 8 else 0)):=by
            show R=_
            rw [Uh HT,Uh H3,Uh HR4]
           clear HT H3 HR4
           rcases hr2 with rfl | rfl <;> cases db <;> cases b4 <;> cases b3
           all_goals
            have HRR3:=HRR2
            go_wp2_with fail
            refine (Uh KA).mono ?_
            rintro e w4 ⟨rfl,hw4⟩
            have HB4:Hid (Below wo.heap.size wo w4):=by rw [hw4]; exact Uh HBQ
            have KE1:=Hd ((Uh KE) w4 (Uh HB4))
            have KN1:=Hd ((Uh KN) w4 (Uh HB4))
            clear KA hw4 HBQ x6 KE KN
            go_wp2_with (first | (refine (Uh KE1).mono ?_; rintro e5 w5 ⟨rfl,hw5⟩; subst hw5; clear KE1) | (refine (Uh KN1).mono ?_; rintro e6 w6 ⟨rfl,hw6⟩; subst hw6; clear KN1))
            go_ret
            exact ⟨by rw [Uh HRR3]; rfl,bthen (Uh HBO) (Uh HB4)⟩
    ·rw [decide_eq_false h012] at K1
     have HT:=Hd ((Uh HR1) h012)
     clear HRL HRR HLN HLT HTL HAT h012
     go_wp2_with fail
     refine (Uh K1).mono ?_
     rintro e w3 ⟨rfl,rfl⟩
     have HBF:=Hd (bthen (Uh HBO) (Uh HBW))
     clear K1 HBW
     go_wp2
     go_ret
     exact ⟨by rw [Uh HT]; rfl,Uh HBF⟩
end Go.Proofs.YtdjpjgjhiibpkaaGreatDoor
