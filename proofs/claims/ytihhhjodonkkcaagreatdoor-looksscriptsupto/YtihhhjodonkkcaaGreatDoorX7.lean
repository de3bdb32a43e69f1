/- TbE7 TbF7 TbN7 TbG7 TbH7 TbI7 TbJ7 TbK7 TbL7 Rs7 Lay7 -/
import Derived.Test.YtihhhjodonkkcaaGreatDoorX3
import Derived.Shelf.Abstract
import Derived.Lib.Walk
import Derived.WalkMore
import Derived.Test.YtihhhjodonkkcaaGreatDoorX13
import Derived.Test.YtihhhjodonkkcaaGreatDoorRows
import Derived.ProofKit
import Derived.OpenShut
import Derived.ShutString
import Derived.LaidMore
import Derived.Lay
import Derived.Stop.LaidErr
import Derived.Deep.DeepHandedRow
import Derived.Lib.LaidTab
import Derived.MakeChecks
import Derived.Shelf.Vars
namespace Go.Proofs.YtihhhjodonkkcaaGreatDoor
open Go.RowKit
set_option maxHeartbeats 400000 in
theorem validRune_any c w (h:-2147483648≤c∧c≤2147483647) :
  Calls Tryz.prog 252 #[.int .i32 c] w fun e w'=>e=.returned (.bool (Cn.scalar c))∧w'=w:=by
 by_cases h1:0≤c
 ·by_cases h2:c<55296
  ·have hk:Cn.scalar c=true:=decide_eq_true (by omega)
   rw [hk]
   go_enter Tryz.func252,Tryz.ntmps252
   go_wp2
   go_ret
   exact ⟨rfl,rfl⟩
  ·by_cases h3:57343<c
   ·by_cases h4:c≤1114111
    ·have hk:Cn.scalar c=true:=decide_eq_true (by omega)
     rw [hk]
     go_enter Tryz.func252,Tryz.ntmps252
     go_wp2
     go_ret
     exact ⟨rfl,rfl⟩
    ·have hk:Cn.scalar c=false:=decide_eq_false (by omega)
     rw [hk]
     go_enter Tryz.func252,Tryz.ntmps252
     go_wp2
     go_ret
     exact ⟨rfl,rfl⟩
   ·have hk:Cn.scalar c=false:=decide_eq_false (by omega)
    rw [hk]
    go_enter Tryz.func252,Tryz.ntmps252
    go_wp2
    go_ret
    exact ⟨rfl,rfl⟩
 ·have hk:Cn.scalar c=false:=decide_eq_false (by omega)
  rw [hk]
  go_enter Tryz.func252,Tryz.ntmps252
  go_wp2
  go_ret
  exact ⟨rfl,rfl⟩
theorem valid_any c w (h:-2147483648≤c∧c≤2147483647) :
  Calls Tryz.prog 250 #[.int .i32 c] w fun e w'=>e=.returned (.bool (Cn.scalar c))∧w'=w:=by
 have H:=Hd (validRune_any c w h)
 go_enter Tryz.func250,Tryz.ntmps250
 go_wp2_with fail
 refine (Uh H).mono ?_
 rintro e w ⟨rfl,rfl⟩
 go_wp2
 go_ret
 exact ⟨rfl,rfl⟩
theorem unsound1_any c w (h:-2147483648≤c∧c≤2147483647) :
  Calls Tryz.prog 249 #[.int .i32 c] w fun e w'=>e=.returned (.bool (!Cn.scalar c))∧w'=w:=by
 have H:=Hd (valid_any c w h)
 go_enter Tryz.func249,Tryz.ntmps249
 go_wp2_with fail
 refine (Uh H).mono ?_
 rintro e w ⟨rfl,rfl⟩
 go_wp2
 go_ret
 exact ⟨rfl,rfl⟩
theorem drop_next {xs:List Int} {k} (hk:k<xs.length):xs.drop k=xs.getD k 0 :: xs.drop (k+1):=by simp_all
def fb (p:Int→Bool):Nat→List Int→Int
 | _,[]=>-1
 | i,c :: r=>if p c then (i:Int) else fb p (i+1) r
theorem fb_hit {p:Int→Bool} {xs:List Int} {k r} (hk:k<xs.length) (h:r=fb p k (xs.drop k)) (hp:p (xs.getD k 0)=true):r=(k:Int):=by
 rw [h,drop_next hk,fb,if_pos hp]
theorem fb_next {p:Int→Bool} {xs:List Int} {k r} (hk:k<xs.length) (h:r=fb p k (xs.drop k)) (hp:p (xs.getD k 0)=false):r=fb p (k+1) (xs.drop (k+1)):=by
 rw [h,drop_next hk,fb,hp]; rfl
theorem fb_end {p:Int→Bool} {xs:List Int} {k r} (hk:xs.length≤k) (h:r=fb p k (xs.drop k)):r=-1:=by
 rw [h,List.drop_eq_nil_of_le hk,fb]
theorem fb_all (p:Int→Bool) i xs:decide (fb p i xs<0)=xs.all (fun c=>!p c):=by
 induction xs generalizing i with
 | nil=>rfl
 | cons c r ih =>
  simp only [fb,List.all_cons]
  by_cases hp:p c=true
  ·simp [hp]
  ·simpa [hp] using ih (i+1)
set_option maxHeartbeats 1000000 in
theorem indexFunc_any (p:Int→Bool) (g:Nat) (hp:∀ x w,(-2147483648≤x∧x≤2147483647)→Calls Tryz.prog g #[.int .i32 x] w fun e w'=>e=.returned (.bool (p x))∧w'=w) (eg:∀ args w,(callFunc g args).run Tryz.prog w=.ok (.enter g args) w)
  v xs w (hv:Sk .i32 w v xs) :
  Calls Tryz.prog 87 #[v,.func (.func g) #[] #[]] w fun e w'=>e=.returned (.int .i64 (fb p 0 xs))∧w'=w:=by
 have hlx:=hv.len
 have hr0:fb p 0 xs=fb p 0 (xs.drop 0):=by rw [List.drop_zero]
 rcases Nat.eq_zero_or_pos xs.length with h0 | h0
 ·have hq:=fb_end (by omega) hr0
  obtain ⟨ao,cap,rfl,_,_⟩:=hv.shape
  rw [hq,h0]
  go_enter Tryz.func87,Tryz.ntmps87
  go_wp2
  refine wp_loop_rounds 1 ?_
  rw [rounds_succ]
  go_wp2
  go_ret
  exact ⟨rfl,rfl⟩
 ·have hfit:=Hd hv.1
  obtain ⟨b,off,cap,rfl,hc1,hc2,hc⟩:=hv.place h0
  have HC:=Hd hc
  have HR0:=Hd hr0
  have HP:=Hd hp
  clear hv hc hr0 hp
  generalize hq:fb p 0 xs=r at *
  go_enter Tryz.func87,Tryz.ntmps87
  go_wp2
  go_loop [5,8] (fun _ i=>∃ k:Nat,i=.int .i64 k∧k≤xs.length∧r=fb p k (xs.drop k)) (fun _ i=>xs.length - (intOf i).toNat)
  case atStart=>exact ⟨0,rfl,by omega,Uh HR0⟩
  case round =>
   obtain ⟨k,rfl,hk,hr⟩:=hrel
   by_cases hlt:k<xs.length
   ·have hcell:=Uh HC k hlt
    have hrg:=(Uh hfit).i32at k
    have HV:=Hd ((Uh HP) (xs.getD k 0) w hrg)
    cases hok:p (xs.getD k 0) with
    | true =>
     have hb:=fb_hit hlt hr hok
     rw [hok] at HV
     subst hb
     clear hr hok HR0
     generalize xs.getD k 0=c at *
     go_wp2_with (go_at_fn g; refine (Uh HV).mono ?_; rintro e w ⟨rfl,rfl⟩)
     go_ret
     exact ⟨rfl,rfl⟩
    | false =>
     have HR:=Hd (fb_next hlt hr hok)
     rw [hok] at HV
     generalize xs.getD k 0=c at *
     go_wp2_with (go_at_fn g; refine (Uh HV).mono ?_; rintro e w ⟨rfl,rfl⟩)
     go_round
     case rel=>exact ⟨k+1,by go_num,by omega,Uh HR⟩
     case measure=>simp [intOf]; omega
   ·have hb:=fb_end (by omega) hr
    subst hb
    go_wp2
    go_ret
    exact ⟨rfl,rfl⟩
theorem enters_un:∀ args w,(callFunc 249 args).run Tryz.prog w=.ok (.enter 249 args) w:=by simp_all
theorem firstUnsound_any v xs w (hv:Sk .i32 w v xs) :
  Calls Tryz.prog 246 #[v] w fun e w'=>e=.returned (.int .i64 (fb (fun c=>!Cn.scalar c) 0 xs))∧w'=w:=by
 have H:=Hd (indexFunc_any (fun c=>!Cn.scalar c) 249 unsound1_any enters_un v xs w hv)
 go_enter Tryz.func246,Tryz.ntmps246
 go_wp2_with fail
 refine (Uh H).mono ?_
 rintro e w ⟨rfl,rfl⟩
 go_wp2
 go_ret
 exact ⟨rfl,rfl⟩
theorem sound_any v xs w (hv:Sk .i32 w v xs) :
  Calls Tryz.prog 244 #[v] w fun e w'=>e=.returned (.bool (xs.all Cn.scalar))∧w'=w:=by
 have H:=Hd (firstUnsound_any v xs w hv)
 have e:xs.all Cn.scalar=decide (fb (fun c=>!Cn.scalar c) 0 xs<0):=by rw [fb_all]; simp
 rw [e]
 go_enter Tryz.func244,Tryz.ntmps244
 go_wp2_with fail
 refine (Uh H).mono ?_
 rintro e w ⟨rfl,rfl⟩
 go_wp2
 go_ret
 exact ⟨rfl,rfl⟩
def nanB (u:Nat):Bool:=decide (9218868437227405312<u % 9223372036854775808)
theorem order_self (d:Ieee.Datum):d.order d=if d.isNaN then none else some .eq:=by
 cases d with
 | number s m i =>
  simp [Ieee.Datum.order,Ieee.Datum.isNaN,Std.ReflCmp.compare_self]
 | infinity s=>simp [Ieee.Datum.order,Ieee.Datum.isNaN,Std.ReflCmp.compare_self]
 | nan s t=>simp [Ieee.Datum.order,Ieee.Datum.isNaN]
theorem read_nan u:(FloatKind.f64.format.read u).isNaN=nanB u:=by
 have e1:FloatKind.f64.format.signWeight=9223372036854775808:=by decide
 have e2:FloatKind.f64.format.binade=4503599627370496:=by decide
 have e3:FloatKind.f64.format.infRung=9218868437227405312:=by decide
 unfold Ieee.Format.read nanB
 simp only [e1,e2,e3]
 split
 ·rw [decide_eq_false (by omega)]; rfl
 ·split
  ·rw [decide_eq_false (by omega)]; rfl
  ·split
   ·rw [decide_eq_false (by omega)]; rfl
   ·rw [decide_eq_true (by omega)]; rfl
theorem neq_self u:(FloatKind.f64.format.order u u != some .eq)=nanB u:=by
 unfold Ieee.Format.order
 rw [order_self,← read_nan]
 cases (FloatKind.f64.format.read u).isNaN <;> rfl
theorem isNaN_any u w:Calls Tryz.prog 159 #[.float .f64 u] w fun e w'=>e=.returned (.bool (nanB u))∧w'=w:=by
 have e:=neq_self u
 go_enter Tryz.func159,Tryz.ntmps159
 go_wp2
 go_ret
 exact ⟨rfl,rfl⟩
def rankN (u:Nat):Int:=if nanB u then 18446744073709551615 else if u<9223372036854775808 then (u:Int)+9223372036854775808 else 18446744073709551615 - u
theorem or_sign {u:Nat} (h:u<9223372036854775808):bits .or .u64 (u:Int) 9223372036854775808=(u:Int)+9223372036854775808:=by
 unfold bits
 simp only []
 have e:(BitVec.ofInt IntKind.u64.bits (u:Int) ||| BitVec.ofInt IntKind.u64.bits 9223372036854775808).toNat=u+9223372036854775808:=by
  rw [BitVec.toNat_or,BitVec.toNat_ofInt,BitVec.toNat_ofInt]
  have e1:((u:Int) % ((2 ^ IntKind.u64.bits:Nat):Int)).toNat=u:=by
   rw [show ((2 ^ IntKind.u64.bits:Nat):Int)=18446744073709551616 by decide]
   omega
  have e2:((9223372036854775808:Int) % ((2 ^ IntKind.u64.bits:Nat):Int)).toNat=9223372036854775808:=by decide
  rw [e1,e2,Nat.or_comm]
  have:=Nat.two_pow_add_eq_or_of_lt (i:=63) (b:=u) (by omega) 1
  rw [show (2:Nat) ^ 63 * 1=9223372036854775808 by decide] at this
  omega
 rw [e,IntWalk.u64_in _ ⟨by omega,by omega⟩]
 omega
theorem xor_all {u:Nat} (h:u<18446744073709551616):bits .xor .u64 IntKind.u64.max (u:Int)=18446744073709551615 - (u:Int):=by
 unfold bits
 simp only []
 have e:(BitVec.ofInt IntKind.u64.bits IntKind.u64.max ^^^ BitVec.ofInt IntKind.u64.bits (u:Int)).toNat=18446744073709551615 - u:=by
  rw [show BitVec.ofInt IntKind.u64.bits IntKind.u64.max=BitVec.allOnes IntKind.u64.bits by decide,BitVec.allOnes_xor,BitVec.toNat_not,BitVec.toNat_ofInt]
  have e1:((u:Int) % ((2 ^ IntKind.u64.bits:Nat):Int)).toNat=u:=by
   rw [show ((2 ^ IntKind.u64.bits:Nat):Int)=18446744073709551616 by decide]
   omega
  rw [e1]
  rfl
 rw [e,IntWalk.u64_in _ ⟨by omega,by omega⟩]
 omega
set_option maxRecDepth 8000 in
set_option maxHeartbeats 1000000 in
theorem rank_any u w (hu:u<18446744073709551616):Calls Tryz.prog 248 #[.float .f64 u] w fun e w'=>e=.returned (.int .u64 (rankN u))∧w'=w:=by
 have K1:=Hd (bits_any u w)
 have K2:=Hd (isNaN_any u w)
 unfold rankN
 cases hn:nanB u with
 | true =>
  rw [hn] at K2
  rw [if_pos rfl]
  go_enter Tryz.func248,Tryz.ntmps248
  go_wp2_with fail
  refine (Uh K1).mono ?_
  rintro e w ⟨rfl,rfl⟩
  go_wp2_with fail
  refine (Uh K2).mono ?_
  rintro e w ⟨rfl,rfl⟩
  go_wp2
  go_ret
  exact ⟨rfl,rfl⟩
 | false =>
  rw [hn] at K2
  rw [if_neg (by decide)]
  by_cases hs:u<9223372036854775808
  ·rw [if_pos hs]
   have hs1:¬ (9223372036854775808:Int)≤(u:Int):=by omega
   have ho:=or_sign hs
   have hz:(0:Int)≤(u:Int):=by omega
   have hs2:(u:Int)<9223372036854775808:=by omega
   generalize (u:Int)=x at *
   go_enter Tryz.func248,Tryz.ntmps248
   go_wp2_with fail
   refine (Uh K1).mono ?_
   rintro e w ⟨rfl,rfl⟩
   go_wp2_with fail
   refine (Uh K2).mono ?_
   rintro e w ⟨rfl,rfl⟩
   go_wp2
   go_ret
   exact ⟨rfl,rfl⟩
  ·rw [if_neg hs]
   have hs1:(9223372036854775808:Int)≤(u:Int):=by omega
   have hx:=xor_all hu
   go_enter Tryz.func248,Tryz.ntmps248
   go_wp2_with fail
   refine (Uh K1).mono ?_
   rintro e w ⟨rfl,rfl⟩
   go_wp2_with fail
   refine (Uh K2).mono ?_
   rintro e w ⟨rfl,rfl⟩
   go_wp2
   go_ret
   refine ⟨?_,rfl⟩
   rw [← hx]
   rfl
def okAt (k:Nat) (c:Int):Prop:=if k=0 then 65≤c∧c≤90 else 97≤c∧c≤122
theorem name_iff l:Scn.name l=true↔(l.length=4∧∀ k,k<4→okAt k (l.getD k 0)):=by
 unfold Scn.name
 rw [decide_eq_true_iff]
 constructor
 ·rintro ⟨h0,h1,h2,h3,h4,h5⟩
  refine ⟨h0,fun k hk=>?_⟩
  unfold okAt
  obtain rfl | rfl | rfl | rfl:k=0∨k=1∨k=2∨k=3:=by omega
  ·exact ⟨h1,h2⟩
  ·exact h3
  ·exact h4
  ·exact h5
 ·rintro ⟨h0,h⟩
  exact ⟨h0,(h 0 (by omega)).1,(h 0 (by omega)).2,h 1 (by omega),h 2 (by omega),h 3 (by omega)⟩
set_option maxHeartbeats 2000000 in
theorem scanName_any s w:Calls Tryz.prog 243 #[.string s] w (BoolB w (Scn.name (nums s))):=by
 have hlen:=nums_length s
 by_cases h4:s.size=4
 ·have HT:Hid ((∀ k,k<4→okAt k ((nums s).getD k 0))→∀ w',Below w.heap.size w w'→BoolB w (Scn.name (nums s)) (.returned (.bool true)) w'):=fun h w' hb=>⟨by rw [(name_iff _).2 ⟨by omega,h⟩],hb⟩
  have HFa:Hid (∀ k,k<4→¬ okAt k ((nums s).getD k 0)→∀ w',Below w.heap.size w w'→BoolB w (Scn.name (nums s)) (.returned (.bool false)) w'):=fun k hk h w' hb=>by
   have:Scn.name (nums s)=false:=by
    cases hn:Scn.name (nums s) with
    | false=>rfl
    | true=>exact absurd (((name_iff _).1 hn).2 k hk) h
   exact ⟨by rw [this],hb⟩
  have HByt:=Hd (fun k=>(nums_byt s).at k)
  have q4:((s.size:Int) != 4)=false:=by rw [h4]; rfl
  go_enter Tryz.func243,Tryz.ntmps243
  go_wp2
  go_loopw [3,4] (fun _ _ wr=>∃ k:Nat,wr=w.iter s k∧k≤4∧∀ j,j<k→okAt j ((nums s).getD j 0)) (fun _ _ wr=>4 - wr.iterPos w.heap.size)
  case atStart=>exact ⟨0,rfl,by omega,fun j hj=>absurd hj (Nat.not_lt_zero _)⟩
  case round =>
   obtain ⟨k,rfl,hk,hok⟩:=hrel
   have HOK:=Hd hok
   by_cases hlt:k<4
   ·have hnx:=fun ty=>run_next_any (P:=Tryz.prog) w s k ty (by omega)
    obtain ⟨c1,c2⟩:=(Uh HByt) k
    rcases Int.lt_or_le ((nums s).getD k 0) 128 with hlo | hhi
    ·obtain ⟨d1,d2⟩:=dec_low s k (by omega) hlo
     rw [d1,d2] at hnx
     have HF2:=Hd ((Uh HFa) k hlt)
     have HO2:Hid (okAt k ((nums s).getD k 0)→∀ j,j<k+1→okAt j ((nums s).getD j 0)):=fun h j hj=>by
      rcases Nat.lt_or_ge j k with hj2 | hj2
      ·exact (Uh HOK) j hj2
      ·obtain rfl:j=k:=by omega
       exact h
     have hmo:4 - (k+1)<4 - (w.iter s k).iterPos w.heap.size:=by rw [World.iterPos_iter]; omega
     generalize hcg:(nums s).getD k 0=c at hnx c1 c2 hlo HF2 HO2
     by_cases hk0:k=0
     ·subst hk0
      by_cases g1:65≤c
      ·by_cases g2:c≤90
       ·have HX:=Hd ((Uh HO2) ⟨g1,g2⟩)
        go_wp2
        go_roundw
        case rel=>exact ⟨0+1,rfl,by omega,Uh HX⟩
        case measure=>rw [World.iterPos_iter]; exact hmo
       ·have HF:=(Uh HF2) (fun h=>g2 h.2) (w.iter s (0+1)) ((Below.refl _ _).alloc (Nat.le_refl _) _)
        go_wp2
        go_ret
        exact HF
      ·have HF:=(Uh HF2) (fun h=>g1 h.1) (w.iter s (0+1)) ((Below.refl _ _).alloc (Nat.le_refl _) _)
       go_wp2
       go_ret
       exact HF
     ·have hk1:((k:Int)==0)=false:=beq_eq_false_iff_ne.2 (by omega)
      have eok:okAt k c=(97≤c∧c≤122):=by unfold okAt; rw [if_neg hk0]
      rw [eok] at HF2 HO2
      by_cases g1:97≤c
      ·by_cases g2:c≤122
       ·have HX:=Hd ((Uh HO2) ⟨g1,g2⟩)
        go_wp2
        go_roundw
        case rel=>exact ⟨k+1,rfl,by omega,Uh HX⟩
        case measure=>rw [World.iterPos_iter]; exact hmo
       ·have HF:=(Uh HF2) (fun h=>g2 h.2) (w.iter s (k+1)) ((Below.refl _ _).alloc (Nat.le_refl _) _)
        go_wp2
        go_ret
        exact HF
      ·have HF:=(Uh HF2) (fun h=>g1 h.1) (w.iter s (k+1)) ((Below.refl _ _).alloc (Nat.le_refl _) _)
       go_wp2
       go_ret
       exact HF
    ·obtain ⟨d1,d2,d3,d4⟩:=dec_high s k (by omega) hhi
     have d5:=dec_top s k
     have HF:=(Uh HFa) k hlt (fun h=>by unfold okAt at h; split at h <;> omega) (w.iter s (k+(Utf8.decode s k).2)) ((Below.refl _ _).alloc (Nat.le_refl _) _)
     by_cases hk0:k=0
     ·subst hk0
      rw [Nat.zero_add] at HF hnx
      go_wp2
      go_ret
      exact HF
     ·have hk1:((k:Int)==0)=false:=beq_eq_false_iff_ne.2 (by omega)
      go_wp2
      go_ret
      exact HF
   ·obtain rfl:k=4:=by omega
    have hnx:=fun ty=>run_next_end (P:=Tryz.prog) w s 4 ty (by omega)
    have HF:=(Uh HT) (Uh HOK) (w.iter s 4) ((Below.refl _ _).alloc (Nat.le_refl _) _)
    go_wp2
    go_ret
    exact HF
 ·have HF:BoolB w (Scn.name (nums s)) (.returned (.bool false)) w:=by
   have:Scn.name (nums s)=false:=by
    cases hn:Scn.name (nums s) with
    | false=>rfl
    | true=>exact absurd ((name_iff _).1 hn).1 (by omega)
   exact ⟨by rw [this],Below.refl _ _⟩
  have q4:((s.size:Int) != 4)=true:=by simp; omega
  go_enter Tryz.func243,Tryz.ntmps243
  go_wp2
  go_ret
  exact HF
def cmpI (a b:Int):Int:=if a<b then -1 else if b<a then 1 else 0
theorem cmpNaN_any a w:Calls Tryz.prog 251 #[.int .u64 a] w fun e w'=>e=.returned (.bool false)∧w'=w:=by
 have h:(a != a)=false:=by simp
 go_enter Tryz.func251,Tryz.ntmps251
 go_wp2
 go_ret
 exact ⟨rfl,rfl⟩
set_option maxRecDepth 8000 in
set_option maxHeartbeats 1000000 in
theorem compare_any a b w:Calls Tryz.prog 247 #[.int .u64 a,.int .u64 b] w fun e w'=>e=.returned (.int .i64 (cmpI a b))∧w'=w:=by
 have K1:=Hd (cmpNaN_any a w)
 have K2:=Hd (cmpNaN_any b w)
 unfold cmpI
 by_cases h1:a<b
 ·rw [if_pos h1]
  go_enter Tryz.func247,Tryz.ntmps247
  go_wp2_with fail
  refine (Uh K1).mono ?_
  rintro e w ⟨rfl,rfl⟩
  go_wp2_with fail
  refine (Uh K2).mono ?_
  rintro e w ⟨rfl,rfl⟩
  go_wp2
  go_ret
  exact ⟨rfl,rfl⟩
 ·rw [if_neg h1]
  by_cases h2:b<a
  ·rw [if_pos h2]
   go_enter Tryz.func247,Tryz.ntmps247
   go_wp2_with fail
   refine (Uh K1).mono ?_
   rintro e w ⟨rfl,rfl⟩
   go_wp2_with fail
   refine (Uh K2).mono ?_
   rintro e w ⟨rfl,rfl⟩
   go_wp2
   go_ret
   exact ⟨rfl,rfl⟩
  ·rw [if_neg h2]
   go_enter Tryz.func247,Tryz.ntmps247
   go_wp2_with fail
   refine (Uh K1).mono ?_
   rintro e w ⟨rfl,rfl⟩
   go_wp2_with fail
   refine (Uh K2).mono ?_
   rintro e w ⟨rfl,rfl⟩
   go_wp2
   go_ret
   exact ⟨rfl,rfl⟩
theorem weighOrder_any u v w (hu:u<18446744073709551616) (hv:v<18446744073709551616):Calls Tryz.prog 245 #[.float .f64 u,.float .f64 v] w fun e w'=>e=.returned (.int .i64 (cmpI (rankN u) (rankN v)))∧w'=w:=by
 have K1:=Hd (rank_any u w hu)
 have K2:=Hd (rank_any v w hv)
 have K3:=Hd (compare_any (rankN u) (rankN v) w)
 go_enter Tryz.func245,Tryz.ntmps245
 go_wp2_with fail
 refine (Uh K1).mono ?_
 rintro e w ⟨rfl,rfl⟩
 go_wp2_with fail
 refine (Uh K2).mono ?_
 rintro e w ⟨rfl,rfl⟩
 go_wp2_with fail
 refine (Uh K3).mono ?_
 rintro e w ⟨rfl,rfl⟩
 go_wp2
 go_ret
 exact ⟨rfl,rfl⟩
theorem weight_order {u} (h:u<18446744073709551616):(!nanB u && decide (0≤cmpI (rankN u) (rankN 0)))=Cn.weight u:=by
 have r0:rankN 0=9223372036854775808:=by decide
 rw [r0]
 by_cases hn:nanB u=true
 ·rw [hn]
  have:9218868437227405312<u % 9223372036854775808:=of_decide_eq_true hn
  unfold Cn.weight
  rw [decide_eq_false (p:=u≤9218868437227405312) (by omega)]
  rfl
 ·have hn2:nanB u=false:=by simpa using hn
  have:¬ 9218868437227405312<u % 9223372036854775808:=of_decide_eq_false hn2
  by_cases hs:u<9223372036854775808
  ·have e:rankN u=(u:Int)+9223372036854775808:=by unfold rankN; rw [hn2,if_neg (by decide),if_pos hs]
   have hc:0≤cmpI (rankN u) 9223372036854775808:=by
    rw [e]
    unfold cmpI
    rw [if_neg (by omega)]
    split <;> decide
   unfold Cn.weight
   rw [hn2,decide_eq_true hc,decide_eq_true (p:=u≤9218868437227405312) (by omega)]
   rfl
  ·have e:rankN u=18446744073709551615 - (u:Int):=by unfold rankN; rw [hn2,if_neg (by decide),if_neg hs]
   have hc:¬ 0≤cmpI (rankN u) 9223372036854775808:=by
    rw [e]
    unfold cmpI
    rw [if_pos (by omega)]
    decide
   unfold Cn.weight
   rw [hn2,decide_eq_false hc,decide_eq_false (p:=u≤9218868437227405312) (by omega)]
   rfl
theorem below2 w a b:Below w.heap.size w ((w.alloc a).alloc b):=((Below.refl _ _).alloc (Nat.le_refl _) _).alloc (by simp) _
def numB (k:Int) (r:Rec):Bool:=decide ((Cn.rowK k).low≤r.n∧r.n≤(Cn.rowK k).high)
theorem box_cell {w w1:World} {a cs t j} {v} (hb:Below ((w.alloc a).alloc (.cells cs t)).heap.size ((w.alloc a).alloc (.cells cs t)) w1) (h:cs[j]?=some v):w1.cell? ⟨w.heap.size+1,j,none⟩=some v:=by
 have h0:((w.alloc a).alloc (.cells cs t)).heap[w.heap.size+1]?=some (.cells cs t (0,0)):=by
  show ((w.heap.push _).push _)[w.heap.size+1]?=_
  rw [Array.getElem?_push]
  simp
 have h1:w1.heap[w.heap.size+1]?=some (.cells cs t (0,0)):=by
  rw [hb.block _ (by simp),h0]
 have hj:j<cs.size:=by grind
 rw [cell_of (j:=j) h1 hj]
 simp [Array.getD,hj] at h ⊢
 simpa [Array.getElem?_eq_getElem hj] using h
theorem cell_more {w:World} {b i v} (h:w.cell? ⟨b,i,none⟩=some v) o:(w.alloc o).cell? ⟨b,i,none⟩=some v:=by
 rw [World.cell?_alloc_lt _ _ _ (lt_of_cell? h)]
 exact h
set_option maxRecDepth 8000 in
set_option maxHeartbeats 4000000 in
theorem numbered_any k r vt w (hg:Glob w) (hk:I64 k) (hn:I64 r.n):Calls Tryz.prog 238 #[shV k,recV r vt] w (BoolB w (numB k r)):=by
 have hb0:=below2 w (.cells #[.int .i64 k] 215) (.cells #[.int .i64 r.kind,.int .i64 r.lo,.int .i64 r.hi,.int .i64 r.n,vt,.string r.name,.string r.other,.float .f64 r.wt] 59)
 have K:=Hd (row_any k ((w.alloc (.cells #[.int .i64 k] 215)).alloc (.cells #[.int .i64 r.kind,.int .i64 r.lo,.int .i64 r.hi,.int .i64 r.n,vt,.string r.name,.string r.other,.float .f64 r.wt] 59)) (hg.on hb0) hk)
 unfold numB shV recV rowV at *
 generalize Cn.rowK k=q at *
 obtain ⟨n0,n1⟩:=hn
 generalize r.n=n at *
 by_cases h1:q.low≤n
 ·by_cases h2:n≤q.high
  ·rw [decide_eq_true ⟨h1,h2⟩]
   have d1:=decide_eq_true h1
   have d2:=decide_eq_true h2
   go_enter Tryz.func238,Tryz.ntmps238
   go_wp2_with fail
   refine (Uh K).mono ?_
   rintro e w1 ⟨rfl,hb1⟩
   have y3:=box_cell (j:=3) hb1 rfl
   have hb:=bthen hb0 hb1
   have z3:=cell_more y3
   go_wp2
   go_ret
   exact ⟨rfl,hb.alloc hb.size _⟩
  ·rw [decide_eq_false (fun h=>h2 h.2)]
   have d1:=decide_eq_true h1
   have d2:=decide_eq_false h2
   go_enter Tryz.func238,Tryz.ntmps238
   go_wp2_with fail
   refine (Uh K).mono ?_
   rintro e w1 ⟨rfl,hb1⟩
   have y3:=box_cell (j:=3) hb1 rfl
   have hb:=bthen hb0 hb1
   have z3:=cell_more y3
   go_wp2
   go_ret
   exact ⟨rfl,hb.alloc hb.size _⟩
 ·rw [decide_eq_false (fun h=>h1 h.1)]
  have d1:=decide_eq_false h1
  go_enter Tryz.func238,Tryz.ntmps238
  go_wp2_with fail
  refine (Uh K).mono ?_
  rintro e w1 ⟨rfl,hb1⟩
  have y3:=box_cell (j:=3) hb1 rfl
  have hb:=bthen hb0 hb1
  have z3:=cell_more y3
  go_wp2
  go_ret
  exact ⟨rfl,hb.alloc hb.size _⟩
def weiB (k:Int) (r:Rec):Bool:=if (Cn.rowK k).wei=true then Cn.weight r.wt else decide (r.wt=0)
set_option maxRecDepth 8000 in
set_option maxHeartbeats 4000000 in
theorem weighed_any k r vt w (hg:Glob w) (hk:I64 k) (hu:r.wt<18446744073709551616):Calls Tryz.prog 242 #[shV k,recV r vt] w (BoolB w (weiB k r)):=by
 have hb0:=below2 w (.cells #[.int .i64 k] 215) (.cells #[.int .i64 r.kind,.int .i64 r.lo,.int .i64 r.hi,.int .i64 r.n,vt,.string r.name,.string r.other,.float .f64 r.wt] 59)
 have K:=Hd (row_any k ((w.alloc (.cells #[.int .i64 k] 215)).alloc (.cells #[.int .i64 r.kind,.int .i64 r.lo,.int .i64 r.hi,.int .i64 r.n,vt,.string r.name,.string r.other,.float .f64 r.wt] 59)) (hg.on hb0) hk)
 unfold weiB shV recV rowV at *
 generalize Cn.rowK k=q at *
 have hf:=fld8 q
 rw [← weight_order hu]
 have KN:=Hd (fun w=>isNaN_any r.wt w)
 have KO:=Hd (fun w=>weighOrder_any r.wt 0 w hu (by decide))
 have KB:=Hd (fun w=>bits_any r.wt w)
 generalize r.n=n at *
 generalize r.lo=lo at *
 generalize r.hi=hi at *
 generalize r.name=nm at *
 generalize r.other=ot at *
 generalize r.wt=wt at *
 generalize cmpI (rankN wt) (rankN 0)=c at *
 cases hw:q.wei with
 | true =>
  rw [if_pos rfl]
  rw [hw] at hf K
  cases hn:nanB wt with
  | true =>
   rw [hn] at KN
   go_enter Tryz.func242,Tryz.ntmps242
   go_wp2_with fail
   refine (Uh K).mono ?_
   rintro e w1 ⟨rfl,hb1⟩
   have y7:=box_cell (j:=7) hb1 rfl
   have hb:=bthen hb0 hb1
   go_wp2_with fail
   refine ((Uh KN) _).mono ?_
   rintro e w2 ⟨rfl,hw2⟩
   subst w2
   go_wp2
   go_ret
   exact ⟨rfl,hb⟩
  | false =>
   rw [hn] at KN
   by_cases hc:0≤c
   ·rw [decide_eq_true hc]
    have d1:=decide_eq_true hc
    go_enter Tryz.func242,Tryz.ntmps242
    go_wp2_with fail
    refine (Uh K).mono ?_
    rintro e w1 ⟨rfl,hb1⟩
    have y7:=box_cell (j:=7) hb1 rfl
    have hb:=bthen hb0 hb1
    go_wp2_with fail
    refine ((Uh KN) _).mono ?_
    rintro e w2 ⟨rfl,hw2⟩
    subst w2
    go_wp2_with fail
    refine ((Uh KO) _).mono ?_
    rintro e w2 ⟨rfl,hw2⟩
    subst w2
    go_wp2
    go_ret
    exact ⟨rfl,hb⟩
   ·rw [decide_eq_false hc]
    have d1:=decide_eq_false hc
    go_enter Tryz.func242,Tryz.ntmps242
    go_wp2_with fail
    refine (Uh K).mono ?_
    rintro e w1 ⟨rfl,hb1⟩
    have y7:=box_cell (j:=7) hb1 rfl
    have hb:=bthen hb0 hb1
    go_wp2_with fail
    refine ((Uh KN) _).mono ?_
    rintro e w2 ⟨rfl,hw2⟩
    subst w2
    go_wp2_with fail
    refine ((Uh KO) _).mono ?_
    rintro e w2 ⟨rfl,hw2⟩
    subst w2
    go_wp2
    go_ret
    exact ⟨rfl,hb⟩
 | false =>
  rw [if_neg (by decide)]
  rw [hw] at hf K
  by_cases h0:wt=0
  ·rw [decide_eq_true h0]
   subst h0
   go_enter Tryz.func242,Tryz.ntmps242
   go_wp2_with fail
   refine (Uh K).mono ?_
   rintro e w1 ⟨rfl,hb1⟩
   have y7:=box_cell (j:=7) hb1 rfl
   have hb:=bthen hb0 hb1
   go_wp2_with fail
   refine ((Uh KB) _).mono ?_
   rintro e w2 ⟨rfl,hw2⟩
   subst w2
   go_wp2
   go_ret
   exact ⟨rfl,hb⟩
  ·rw [decide_eq_false h0]
   have d0:((wt:Int)==0)=false:=beq_eq_false_iff_ne.2 (by omega)
   go_enter Tryz.func242,Tryz.ntmps242
   go_wp2_with fail
   refine (Uh K).mono ?_
   rintro e w1 ⟨rfl,hb1⟩
   have y7:=box_cell (j:=7) hb1 rfl
   have hb:=bthen hb0 hb1
   go_wp2_with fail
   refine ((Uh KB) _).mono ?_
   rintro e w2 ⟨rfl,hw2⟩
   subst w2
   go_wp2
   go_ret
   exact ⟨rfl,hb⟩
theorem nameB_eq s:Cn.nameL s=Scn.name (nums s):=by
 unfold Cn.nameL Scn.name nums Scn.small
 generalize s.data.toList=l
 match l with
 | []=>rfl
 | [_]=>rfl
 | [_,_]=>rfl
 | [_,_,_]=>rfl
 | [a,b,c,d]=>grind
 | _ :: _ :: _ :: _ :: _ :: _=>grind
theorem l_ne {b:ByteArray} (h:¬ b.size=0):¬ b.toList=[]:=fun e=>h (by
 have:b.data.toList.length=0:=by rw [← ByteArray.toList_eq,e]; rfl
 show b.data.size=0
 rw [← Array.length_toList]
 exact this)
theorem l_emp {b:ByteArray} (h:¬ b.size=0):b.toList.isEmpty=false:=List.isEmpty_eq_false_iff.2 (l_ne h)
theorem l_nil {b:ByteArray} (h:b.size=0):b=⟨#[]⟩:=by
 cases b with
 | mk a =>
  have:a.size=0:=h
  rw [Array.eq_empty_of_size_eq_zero this]
def namB (k:Int) (r:Rec):Bool:=if (Cn.rowK k).scr=1 then Cn.nameL r.name && decide (r.other.size=0) else if (Cn.rowK k).scr=2 then Cn.nameL r.name && (Cn.nameL r.other && decide (r.name≠r.other)) else decide (r.name.size=0) && decide (r.other.size=0)
theorem scanNameL_any s w:Calls Tryz.prog 243 #[.string s] w (BoolB w (Cn.nameL s)):=by
 rw [nameB_eq]
 exact scanName_any s w
set_option maxRecDepth 8000 in
set_option maxHeartbeats 4000000 in
theorem named_any k r vt w (hg:Glob w) (hk:I64 k):Calls Tryz.prog 236 #[shV k,recV r vt] w (BoolB w (namB k r)):=by
 have hb0:=below2 w (.cells #[.int .i64 k] 215) (.cells #[.int .i64 r.kind,.int .i64 r.lo,.int .i64 r.hi,.int .i64 r.n,vt,.string r.name,.string r.other,.float .f64 r.wt] 59)
 have K:=Hd (row_any k ((w.alloc (.cells #[.int .i64 k] 215)).alloc (.cells #[.int .i64 r.kind,.int .i64 r.lo,.int .i64 r.hi,.int .i64 r.n,vt,.string r.name,.string r.other,.float .f64 r.wt] 59)) (hg.on hb0) hk)
 unfold namB shV recV rowV at *
 generalize Cn.rowK k=q at *
 have hf:=fld7 q
 have KN:=Hd (fun w=>scanNameL_any r.name w)
 have KO:=Hd (fun w=>scanNameL_any r.other w)
 generalize r.n=n at *
 generalize r.lo=lo at *
 generalize r.hi=hi at *
 generalize r.name=nm at *
 generalize r.other=ot at *
 generalize r.wt=wt at *
 generalize Cn.nameL nm=a at *
 generalize Cn.nameL ot=b at *
 by_cases s1:q.scr=1
 rw [if_pos s1]
 rw [s1] at hf K
 cases a
 rotate_left
 by_cases h0:ot.size=0
 rw [decide_eq_true h0]
 obtain rfl:=l_nil h0
 rotate_left
 rw [decide_eq_false h0]
 have hne:=l_ne h0
 have hie:=l_emp h0
 rotate_left
 rw [if_neg s1]
 have s1b:(q.scr==1)=false:=beq_eq_false_iff_ne.2 s1
 by_cases s2:q.scr=2
 rw [if_pos s2]
 rw [s2] at hf K
 cases a
 rotate_left
 cases b
 rotate_left
 by_cases h0:nm=ot
 rw [decide_eq_false (fun h=>h h0)]
 subst h0
 rotate_left
 rw [decide_eq_true h0]
 have hne:¬ nm.toList=ot.toList:=fun e=>h0 (by
  rw [ByteArray.toList_eq,ByteArray.toList_eq] at e
  cases nm
  cases ot
  simp_all)
 have hbq:(nm.toList==ot.toList)=false:=beq_eq_false_iff_ne.2 hne
 rotate_left
 rw [if_neg s2]
 have s2b:(q.scr==2)=false:=beq_eq_false_iff_ne.2 s2
 by_cases h0:nm.size=0
 rw [decide_eq_true h0]
 obtain rfl:=l_nil h0
 by_cases h1:ot.size=0
 rw [decide_eq_true h1]
 obtain rfl:=l_nil h1
 rotate_left
 rw [decide_eq_false h1]
 have hne:=l_ne h1
 have hie:=l_emp h1
 rotate_left
 rw [decide_eq_false h0]
 have hne:=l_ne h0
 have hie:=l_emp h0
 all_goals
  go_enter Tryz.func236,Tryz.ntmps236
  go_wp2_with fail
  refine (Uh K).mono ?_
  rintro e w1 ⟨rfl,hb1⟩
  have y5:=box_cell (j:=5) hb1 rfl
  have y6:=box_cell (j:=6) hb1 rfl
  have hb:=bthen hb0 hb1
  try
   go_wp2_with fail
   refine ((Uh KN) _).mono ?_
   rintro e w2 ⟨rfl,hb2⟩
   have y5:=(hb2.cell (lt_of_cell? y5)).trans y5
   have y6:=(hb2.cell (lt_of_cell? y6)).trans y6
   have hb:=bthen hb hb2
  try
   go_wp2_with fail
   refine ((Uh KO) _).mono ?_
   rintro e w3 ⟨rfl,hb3⟩
   have y5:=(hb3.cell (lt_of_cell? y5)).trans y5
   have y6:=(hb3.cell (lt_of_cell? y6)).trans y6
   have hb:=bthen hb hb3
  go_wp2
  go_ret
  exact ⟨rfl,hb⟩
def tarB (k:Int) (r:Rec):Bool:=decide ((Cn.rowK k).least≤(r.to.length:Int)∧(r.to.length:Int)≤(Cn.rowK k).most) && r.to.all Cn.scalar
set_option maxRecDepth 8000 in
set_option maxHeartbeats 4000000 in
theorem targeted_any k r vt w (hg:Glob w) (hk:I64 k) (hs:Sk .i32 w vt r.to):Calls Tryz.prog 241 #[shV k,recV r vt] w (BoolB w (tarB k r)):=by
 have hb0:=below2 w (.cells #[.int .i64 k] 215) (.cells #[.int .i64 r.kind,.int .i64 r.lo,.int .i64 r.hi,.int .i64 r.n,vt,.string r.name,.string r.other,.float .f64 r.wt] 59)
 have K:=Hd (row_any k ((w.alloc (.cells #[.int .i64 k] 215)).alloc (.cells #[.int .i64 r.kind,.int .i64 r.lo,.int .i64 r.hi,.int .i64 r.n,vt,.string r.name,.string r.other,.float .f64 r.wt] 59)) (hg.on hb0) hk)
 unfold tarB shV recV rowV at *
 generalize Cn.rowK k=q at *
 have KS:Hid (∀ W,Below w.heap.size w W→Calls Tryz.prog 244 #[vt] W fun e w'=>e=.returned (.bool (r.to.all Cn.scalar))∧w'=W):=fun W h=>sound_any vt r.to W (hs.below h)
 obtain ⟨ao,cap,rfl,_,_⟩:=hs.shape
 generalize r.n=n at *
 generalize r.lo=lo at *
 generalize r.hi=hi at *
 generalize r.name=nm at *
 generalize r.other=ot at *
 generalize r.wt=wt at *
 generalize r.to.all Cn.scalar=b at *
 generalize r.to.length=m at *
 by_cases h1:q.least≤(m:Int)
 ·have d1:=decide_eq_true h1
  by_cases h2:(m:Int)≤q.most
  ·have d2:=decide_eq_true h2
   rw [decide_eq_true ⟨h1,h2⟩,Bool.true_and]
   go_enter Tryz.func241,Tryz.ntmps241
   go_wp2_with fail
   refine (Uh K).mono ?_
   rintro e w1 ⟨rfl,hb1⟩
   have y4:=box_cell (j:=4) hb1 rfl
   have hb:=bthen hb0 hb1
   have z4:=cell_more y4
   go_wp2_with fail
   refine ((Uh KS) _ (hb.alloc hb.size _)).mono ?_
   rintro e w2 ⟨rfl,hw2⟩
   subst w2
   go_wp2
   go_ret
   exact ⟨rfl,hb.alloc hb.size _⟩
  ·have d2:=decide_eq_false h2
   rw [decide_eq_false (fun h=>h2 h.2),Bool.false_and]
   go_enter Tryz.func241,Tryz.ntmps241
   go_wp2_with fail
   refine (Uh K).mono ?_
   rintro e w1 ⟨rfl,hb1⟩
   have y4:=box_cell (j:=4) hb1 rfl
   have hb:=bthen hb0 hb1
   have z4:=cell_more y4
   go_wp2
   go_ret
   exact ⟨rfl,hb.alloc hb.size _⟩
 ·have d1:=decide_eq_false h1
  rw [decide_eq_false (fun h=>h1 h.1),Bool.false_and]
  go_enter Tryz.func241,Tryz.ntmps241
  go_wp2_with fail
  refine (Uh K).mono ?_
  rintro e w1 ⟨rfl,hb1⟩
  have y4:=box_cell (j:=4) hb1 rfl
  have hb:=bthen hb0 hb1
  have z4:=cell_more y4
  go_wp2
  go_ret
  exact ⟨rfl,hb.alloc hb.size _⟩
set_option maxRecDepth 8000 in
set_option maxHeartbeats 4000000 in
theorem isScalar_any c w (hc:I64 c):Calls Tryz.prog 257 #[.int .i64 c] w fun e w'=>e=.returned (.bool (Cn.scalar c))∧w'=w:=by
 have K:=Hd (isPoint_any c w hc)
 by_cases hp:0≤c∧c≤1114111
 ·have e:isPt c=true:=decide_eq_true hp
  rw [e] at K
  have hw:IntKind.i32.wrap c=c:=IntWalk.i32_in _ ⟨by omega,by omega⟩
  have K2:=Hd (valid_any c w ⟨by omega,by omega⟩)
  go_enter Tryz.func257,Tryz.ntmps257
  go_wp2_with fail
  refine (Uh K).mono ?_
  rintro e w1 ⟨rfl,hw1⟩
  subst w1
  go_wp2_with fail
  refine (Uh K2).mono ?_
  rintro e w1 ⟨rfl,hw1⟩
  subst w1
  go_wp2
  go_ret
  exact ⟨rfl,rfl⟩
 ·have e:isPt c=false:=decide_eq_false hp
  rw [e] at K
  have e2:Cn.scalar c=false:=decide_eq_false (by omega)
  rw [e2]
  go_enter Tryz.func257,Tryz.ntmps257
  go_wp2_with fail
  refine (Uh K).mono ?_
  rintro e w1 ⟨rfl,hw1⟩
  subst w1
  go_wp2
  go_ret
  exact ⟨rfl,rfl⟩
set_option maxRecDepth 8000 in
set_option maxHeartbeats 4000000 in
theorem placedPaired_any k r vt w (hf:RecFit r):Calls Tryz.prog 262 #[shV k,recV r vt] w (BoolB w (decide (r.lo=0∧r.hi=0))):=by
 have hb:=below2 w (.cells #[.int .i64 k] 248) (.cells #[.int .i64 r.kind,.int .i64 r.lo,.int .i64 r.hi,.int .i64 r.n,vt,.string r.name,.string r.other,.float .f64 r.wt] 59)
 have hlo:=hf.lo
 have hhi:=hf.hi
 unfold shV recV at *
 generalize r.lo=lo at *
 generalize r.hi=hi at *
 by_cases h1:lo=0
 ·by_cases h2:hi=0
  ·rw [decide_eq_true ⟨h1,h2⟩]
   subst h1 h2
   go_enter Tryz.func262,Tryz.ntmps262
   go_wp2
   go_ret
   exact ⟨rfl,hb⟩
  ·rw [decide_eq_false (fun h=>h2 h.2)]
   subst h1
   have d2:(hi==0)=false:=beq_eq_false_iff_ne.2 h2
   go_enter Tryz.func262,Tryz.ntmps262
   go_wp2
   go_ret
   exact ⟨rfl,hb⟩
 ·rw [decide_eq_false (fun h=>h1 h.1)]
  have d1:(lo==0)=false:=beq_eq_false_iff_ne.2 h1
  go_enter Tryz.func262,Tryz.ntmps262
  go_wp2
  go_ret
  exact ⟨rfl,hb⟩
set_option maxRecDepth 8000 in
set_option maxHeartbeats 4000000 in
theorem placedSingle_any k r vt w (hf:RecFit r):Calls Tryz.prog 259 #[shV k,recV r vt] w (BoolB w (decide (r.lo=r.hi) && Cn.scalar r.lo)):=by
 have hb:=below2 w (.cells #[.int .i64 k] 247) (.cells #[.int .i64 r.kind,.int .i64 r.lo,.int .i64 r.hi,.int .i64 r.n,vt,.string r.name,.string r.other,.float .f64 r.wt] 59)
 have hlo:=hf.lo
 have hhi:=hf.hi
 have K:=Hd (fun w=>isScalar_any r.lo w hf.lo)
 unfold shV recV at *
 generalize r.lo=lo at *
 generalize r.hi=hi at *
 by_cases h1:lo=hi
 ·rw [decide_eq_true h1,Bool.true_and]
  subst h1
  have d1:(lo==lo)=true:=beq_self_eq_true _
  go_enter Tryz.func259,Tryz.ntmps259
  go_wp2_with fail
  refine ((Uh K) _).mono ?_
  rintro e w2 ⟨rfl,hw2⟩
  subst w2
  go_wp2
  go_ret
  exact ⟨rfl,hb⟩
 ·rw [decide_eq_false h1,Bool.false_and]
  have d1:(lo==hi)=false:=beq_eq_false_iff_ne.2 h1
  go_enter Tryz.func259,Tryz.ntmps259
  go_wp2
  go_ret
  exact ⟨rfl,hb⟩
def spanB (r:Rec):Bool:=decide (0≤r.lo∧r.lo≤1114111∧0≤r.hi∧r.hi≤1114111∧r.lo≤r.hi)
set_option maxRecDepth 8000 in
set_option maxHeartbeats 4000000 in
theorem placedSpanned_any k r vt w (hf:RecFit r):Calls Tryz.prog 254 #[shV k,recV r vt] w (BoolB w (spanB r)):=by
 have hb:=below2 w (.cells #[.int .i64 k] 244) (.cells #[.int .i64 r.kind,.int .i64 r.lo,.int .i64 r.hi,.int .i64 r.n,vt,.string r.name,.string r.other,.float .f64 r.wt] 59)
 have hlo:=hf.lo
 have hhi:=hf.hi
 have K1:=Hd (fun w=>isPoint_any r.lo w hf.lo)
 have K2:=Hd (fun w=>isPoint_any r.hi w hf.hi)
 unfold spanB shV recV at *
 generalize r.lo=lo at *
 generalize r.hi=hi at *
 by_cases h1:0≤lo∧lo≤1114111
 ·have e1:isPt lo=true:=decide_eq_true h1
  rw [e1] at K1
  by_cases h2:0≤hi∧hi≤1114111
  ·have e2:isPt hi=true:=decide_eq_true h2
   rw [e2] at K2
   by_cases h3:lo≤hi
   ·rw [decide_eq_true ⟨h1.1,h1.2,h2.1,h2.2,h3⟩]
    have d3:=decide_eq_true h3
    go_enter Tryz.func254,Tryz.ntmps254
    go_wp2_with fail
    refine ((Uh K1) _).mono ?_
    rintro e w2 ⟨rfl,hw2⟩
    subst w2
    go_wp2_with fail
    refine ((Uh K2) _).mono ?_
    rintro e w2 ⟨rfl,hw2⟩
    subst w2
    go_wp2
    go_ret
    exact ⟨rfl,hb⟩
   ·rw [decide_eq_false (fun h=>h3 h.2.2.2.2)]
    have d3:=decide_eq_false h3
    go_enter Tryz.func254,Tryz.ntmps254
    go_wp2_with fail
    refine ((Uh K1) _).mono ?_
    rintro e w2 ⟨rfl,hw2⟩
    subst w2
    go_wp2_with fail
    refine ((Uh K2) _).mono ?_
    rintro e w2 ⟨rfl,hw2⟩
    subst w2
    go_wp2
    go_ret
    exact ⟨rfl,hb⟩
  ·have e2:isPt hi=false:=decide_eq_false h2
   rw [e2] at K2
   rw [decide_eq_false (fun h=>h2 ⟨h.2.2.1,h.2.2.2.1⟩)]
   go_enter Tryz.func254,Tryz.ntmps254
   go_wp2_with fail
   refine ((Uh K1) _).mono ?_
   rintro e w2 ⟨rfl,hw2⟩
   subst w2
   go_wp2_with fail
   refine ((Uh K2) _).mono ?_
   rintro e w2 ⟨rfl,hw2⟩
   subst w2
   go_wp2
   go_ret
   exact ⟨rfl,hb⟩
 ·have e1:isPt lo=false:=decide_eq_false h1
  rw [e1] at K1
  rw [decide_eq_false (fun h=>h1 ⟨h.1,h.2.1⟩)]
  go_enter Tryz.func254,Tryz.ntmps254
  go_wp2_with fail
  refine ((Uh K1) _).mono ?_
  rintro e w2 ⟨rfl,hw2⟩
  subst w2
  go_wp2
  go_ret
  exact ⟨rfl,hb⟩
def shiftB (r:Rec):Bool:=spanB r && (decide (r.to.length=1) && (Cn.scalar (r.to.getD 0 0) && (Cn.scalar (r.to.getD 0 0+r.hi - r.lo) && (decide (r.to.getD 0 0<55296)==decide (r.to.getD 0 0+r.hi - r.lo<55296)))))
set_option maxRecDepth 8000 in
set_option maxHeartbeats 4000000 in
theorem placedShifted_any k r vt w (hf:RecFit r) (hs:Sk .i32 w vt r.to):Calls Tryz.prog 255 #[shV k,recV r vt] w (BoolB w (shiftB r)):=by
 have hb0:=below2 w (.cells #[.int .i64 k] 246) (.cells #[.int .i64 r.kind,.int .i64 r.lo,.int .i64 r.hi,.int .i64 r.n,vt,.string r.name,.string r.other,.float .f64 r.wt] 59)
 have K1:=Hd (placedSpanned_any k r vt ((w.alloc (.cells #[.int .i64 k] 246)).alloc (.cells #[.int .i64 r.kind,.int .i64 r.lo,.int .i64 r.hi,.int .i64 r.n,vt,.string r.name,.string r.other,.float .f64 r.wt] 59)) hf)
 have hlen:=hf.len
 unfold shiftB
 cases hsp:spanB r with
 | false =>
  rw [hsp] at K1
  rw [Bool.false_and]
  unfold shV recV at *
  go_enter Tryz.func255,Tryz.ntmps255
  go_wp2_with fail
  refine (Uh K1).mono ?_
  rintro e w1 ⟨rfl,hb1⟩
  have hb:=bthen hb0 hb1
  go_wp2
  go_ret
  exact ⟨rfl,hb⟩
 | true =>
  rw [hsp] at K1
  rw [Bool.true_and]
  by_cases h1:r.to.length=1
  ·rw [decide_eq_true h1,Bool.true_and]
   obtain ⟨b,off,cap,rfl,hc1,hc2,hc⟩:=hs.place (by omega)
   have hx:=hc 0 (by omega)
   have hrn:=hs.1.i32at 0
   obtain ⟨p0,p1,p2,p3,p4⟩:0≤r.lo∧r.lo≤1114111∧0≤r.hi∧r.hi≤1114111∧r.lo≤r.hi:=of_decide_eq_true hsp
   rw [h1] at K1 hc1 hb0
   have hlt1:=lt_of_cell? hx
   have KA:=Hd (fun w=>isScalar_any (r.to.getD 0 0) w ⟨by omega,by omega⟩)
   have KB:=Hd (fun w=>isScalar_any (r.to.getD 0 0+r.hi - r.lo) w ⟨by omega,by omega⟩)
   rw [h1]
   unfold shV recV at *
   generalize r.n=n at *
   generalize r.lo=lo at *
   generalize r.hi=hi at *
   generalize r.name=nm at *
   generalize r.other=ot at *
   generalize r.wt=wt at *
   generalize r.to.getD 0 0=x at *
   have e1:IntKind.i64.wrap (x+hi)=x+hi:=IntWalk.i64_in _ ⟨by omega,by omega⟩
   have e2:IntKind.i64.wrap (x+hi - lo)=x+hi - lo:=IntWalk.i64_in _ ⟨by omega,by omega⟩
   have e3:IntKind.i64.wrap x=x:=IntWalk.i64_in _ ⟨by omega,by omega⟩
   cases ha:Cn.scalar x with
   | false =>
    rw [ha] at KA
    rw [Bool.false_and]
    go_enter Tryz.func255,Tryz.ntmps255
    go_wp2_with fail
    refine (Uh K1).mono ?_
    rintro e w1 ⟨rfl,hb1⟩
    have y1:=box_cell (j:=1) hb1 rfl
    have y2:=box_cell (j:=2) hb1 rfl
    have y4:=box_cell (j:=4) hb1 rfl
    have hb:=bthen hb0 hb1
    have hy:w1.cell? ⟨b,off,none⟩=some (.int .i32 x):=(hb.cell (by exact hlt1)).trans hx
    go_wp2_with fail
    refine ((Uh KA) _).mono ?_
    rintro e w2 ⟨rfl,hw2⟩
    subst w2
    go_wp2
    go_ret
    exact ⟨rfl,hb⟩
   | true =>
    rw [ha] at KA
    rw [Bool.true_and]
    cases hz:Cn.scalar (x+hi - lo) with
    | false =>
     rw [hz] at KB
     rw [Bool.false_and]
     go_enter Tryz.func255,Tryz.ntmps255
     go_wp2_with fail
     refine (Uh K1).mono ?_
     rintro e w1 ⟨rfl,hb1⟩
     have y1:=box_cell (j:=1) hb1 rfl
     have y2:=box_cell (j:=2) hb1 rfl
     have y4:=box_cell (j:=4) hb1 rfl
     have hb:=bthen hb0 hb1
     have hy:w1.cell? ⟨b,off,none⟩=some (.int .i32 x):=(hb.cell (by exact hlt1)).trans hx
     go_wp2_with fail
     refine ((Uh KA) _).mono ?_
     rintro e w2 ⟨rfl,hw2⟩
     subst w2
     go_wp2_with fail
     refine ((Uh KB) _).mono ?_
     rintro e w2 ⟨rfl,hw2⟩
     subst w2
     go_wp2
     go_ret
     exact ⟨rfl,hb⟩
    | true =>
     rw [hz] at KB
     rw [Bool.true_and]
     go_enter Tryz.func255,Tryz.ntmps255
     go_wp2_with fail
     refine (Uh K1).mono ?_
     rintro e w1 ⟨rfl,hb1⟩
     have y1:=box_cell (j:=1) hb1 rfl
     have y2:=box_cell (j:=2) hb1 rfl
     have y4:=box_cell (j:=4) hb1 rfl
     have hb:=bthen hb0 hb1
     have hy:w1.cell? ⟨b,off,none⟩=some (.int .i32 x):=(hb.cell (by exact hlt1)).trans hx
     go_wp2_with fail
     refine ((Uh KA) _).mono ?_
     rintro e w2 ⟨rfl,hw2⟩
     subst w2
     go_wp2_with fail
     refine ((Uh KB) _).mono ?_
     rintro e w2 ⟨rfl,hw2⟩
     subst w2
     go_wp2
     go_ret
     exact ⟨rfl,hb⟩
  ·rw [decide_eq_false h1,Bool.false_and]
   have d1:((r.to.length:Int) != 1)=true:=by simp; omega
   obtain ⟨ao,cap,rfl,_,_⟩:=hs.shape
   unfold shV recV at *
   generalize r.kind=kd at *
   generalize r.n=n at *
   generalize r.lo=lo at *
   generalize r.hi=hi at *
   generalize r.name=nm at *
   generalize r.other=ot at *
   generalize r.wt=wt at *
   generalize r.to.length=m at *
   go_enter Tryz.func255,Tryz.ntmps255
   go_wp2_with fail
   refine (Uh K1).mono ?_
   rintro e w1 ⟨rfl,hb1⟩
   have y4:=box_cell (j:=4) hb1 rfl
   have hb:=bthen hb0 hb1
   go_wp2
   go_ret
   exact ⟨rfl,hb⟩
def BoolIs (w:World) (b:Bool) (e:Ending) (w':World):Prop:=e=.returned (.bool b)∧w'=w
theorem BoolIs.mk {w b c} (h:c=b):BoolIs w b (.returned (.bool c)) w:=by subst h; exact ⟨rfl,rfl⟩
set_option maxHeartbeats 1000000 in
theorem refName_any s w:Calls Tryz.prog 103 #[.string s] w (BoolIs w (Scn.name (nums s))):=by
 have hlen:=nums_length s
 have hat:=fun i k hi hk w=>run_at s i k hi hk w
 have hbyt:=fun k=>(nums_byt s).at k
 have HF0:Hid (¬ s.size=4→BoolIs w (Scn.name (nums s)) (.returned (.bool false)) w):=fun h=>BoolIs.mk (by unfold Scn.name; rw [decide_eq_false]; omega)
 have HF1:Hid (¬ (65≤(nums s).getD 0 0∧(nums s).getD 0 0≤90)→BoolIs w (Scn.name (nums s)) (.returned (.bool false)) w):=fun h=>BoolIs.mk (by unfold Scn.name; rw [decide_eq_false]; exact fun x=>h ⟨x.2.1,x.2.2.1⟩)
 have HF2:Hid (∀ k,1≤k→k<4→¬ (97≤(nums s).getD k 0∧(nums s).getD k 0≤122)→BoolIs w (Scn.name (nums s)) (.returned (.bool false)) w):=fun k h1 h2 h=>BoolIs.mk (by
  unfold Scn.name; rw [decide_eq_false]
  intro x
  obtain ⟨_,_,_,x1,x2,x3⟩:=x
  have:k=1∨k=2∨k=3:=by omega
  rcases this with e | e | e <;> subst e
  ·exact h x1
  ·exact h x2
  ·exact h x3)
 have HT:Hid (s.size=4→65≤(nums s).getD 0 0→(nums s).getD 0 0≤90→(∀ k,1≤k→k<4→97≤(nums s).getD k 0∧(nums s).getD k 0≤122)→BoolIs w (Scn.name (nums s)) (.returned (.bool true)) w):=fun h1 h2 h3 h4=>BoolIs.mk (by
  unfold Scn.name; rw [decide_eq_true]
  exact ⟨by omega,h2,h3,h4 1 (by omega) (by omega),h4 2 (by omega) (by omega),h4 3 (by omega) (by omega)⟩)
 by_cases a1:s.size=4
 ·have h0:=hat 0 0 rfl (by omega)
  obtain ⟨z1,z2⟩:=hbyt 0
  have HAt:=Hd hat
  have HByt:=Hd hbyt
  have HT2:=Hd ((Uh HT) a1)
  have hne:((s.size:Int) != 4)=false:=by simp [a1]
  clear hat hbyt HF0 HT
  generalize (nums s).getD 0 0=c0 at *
  by_cases a2:c0<65
  ·have HF:=(Uh HF1) (by omega)
   clear HF1 HF2 HT2
   go_enter Tryz.func103,Tryz.ntmps103
   go_wp2
   go_ret
   exact HF
  ·by_cases a3:90<c0
   ·have HF:=(Uh HF1) (by omega)
    clear HF1 HF2 HT2
    go_enter Tryz.func103,Tryz.ntmps103
    go_wp2
    go_ret
    exact HF
   ·have HT3:=Hd ((Uh HT2) (by omega) (by omega))
    clear HF1 HT2
    go_enter Tryz.func103,Tryz.ntmps103
    go_wp2
    go_loop [3] (fun i=>∃ k:Nat,i=.int .i64 k∧1≤k∧k≤4∧∀ j,1≤j→j<k→97≤(nums s).getD j 0∧(nums s).getD j 0≤122) (fun i=>4 - (intOf i).toNat)
    case atStart=>exact ⟨1,rfl,by omega,by omega,fun j h1 h2=>by omega⟩
    case round =>
     clear h0 z1 z2
     obtain ⟨k,rfl,k1,k2,hall⟩:=hrel
     by_cases hlt:k<4
     ·have hk:=(Uh HAt) (k:Int) k rfl (by omega)
      obtain ⟨b1,b2⟩:=(Uh HByt) k
      have HNx:Hid (97≤(nums s).getD k 0→(nums s).getD k 0≤122→∀ j,1≤j→j<k+1→97≤(nums s).getD j 0∧(nums s).getD j 0≤122):=fun h1 h2 j j1 j2=>by
       by_cases e:j=k
       ·subst e; exact ⟨h1,h2⟩
       ·exact hall j j1 (by omega)
      have HFk:=Hd ((Uh HF2) k k1 hlt)
      clear hall
      generalize (nums s).getD k 0=c at *
      by_cases b3:c<97
      ·have HF:=(Uh HFk) (by omega)
       clear HFk HNx HF2 HT3
       go_wp2
       go_ret
       exact HF
      ·by_cases b4:122<c
       ·have HF:=(Uh HFk) (by omega)
        clear HFk HNx HF2 HT3
        go_wp2
        go_ret
        exact HF
       ·have HX:=Hd ((Uh HNx) (by omega) (by omega))
        clear HFk HNx HF2 HT3
        go_wp2
        go_round
        case rel=>exact ⟨k+1,by go_num,by omega,by omega,Uh HX⟩
        case measure=>simp [intOf]; omega
     ·obtain rfl:k=4:=by omega
      have HF:=(Uh HT3) hall
      clear HF2 HT3 hall
      go_wp2
      go_ret
      exact HF
 ·have HF:=(Uh HF0) a1
  have hne:((s.size:Int) != 4)=true:=by simp; omega
  clear HF0 HF1 HF2 HT hat hbyt
  go_enter Tryz.func103,Tryz.ntmps103
  go_wp2
  go_ret
  exact HF
theorem name_eq s:Cn.nameL s=Scn.name (nums s):=by
 unfold Cn.nameL Scn.name nums Scn.small
 generalize s.data.toList=l
 match l with
 | []=>rfl
 | [_]=>rfl
 | [_,_]=>rfl
 | [_,_,_]=>rfl
 | [a,b,c,d] =>
  simp only [List.map_cons,List.map_nil,List.length_cons,List.length_nil,List.getD_cons_zero,List.getD_cons_succ]
  rw [decide_eq_decide]
  constructor
  ·intro h
   exact ⟨trivial,(show 65≤(a.toNat:Int) by omega),(show (a.toNat:Int)≤90 by omega),⟨(show 97≤(b.toNat:Int) by omega),(show (b.toNat:Int)≤122 by omega)⟩,⟨(show 97≤(c.toNat:Int) by omega),(show (c.toNat:Int)≤122 by omega)⟩,(show 97≤(d.toNat:Int) by omega),(show (d.toNat:Int)≤122 by omega)⟩
  ·rintro ⟨_,h1,h2,⟨h3,h4⟩,⟨h5,h6⟩,h7,h8⟩
   have g1:65≤(a.toNat:Int):=h1
   have g2:(a.toNat:Int)≤90:=h2
   have g3:97≤(b.toNat:Int):=h3
   have g4:(b.toNat:Int)≤122:=h4
   have g5:97≤(c.toNat:Int):=h5
   have g6:(c.toNat:Int)≤122:=h6
   have g7:97≤(d.toNat:Int):=h7
   have g8:(d.toNat:Int)≤122:=h8
   omega
 | _ :: _ :: _ :: _ :: _ :: _ =>
  simp only [List.map_cons,List.length_cons]
  symm
  rw [decide_eq_false_iff_not]
  omega
theorem refNameL_any s w:Calls Tryz.prog 103 #[.string s] w fun e w'=>e=.returned (.bool (Cn.nameL s))∧w'=w:=by
 rw [name_eq]
 exact refName_any s w
def theLaid:List (String × DataW Unit):=Rows.looksTellsRow.laid
def rowD (r:Row9):DataW Unit:=.agg [.lit (.string r.word.data.toList),.lit (.int .i64 r.fam),.lit (.int .i64 r.least),.lit (.int .i64 r.most),.lit (.int .i64 r.low),.lit (.int .i64 r.high),.lit (.string r.said.data.toList),.lit (.int .i64 r.scr),.lit (.bool r.wei)]
theorem laid_rows:(Rows.laid_endonym_table_rows:DataW Unit)=.agg ((List.range 16).map fun k=>rowD (Cn.rowT k)):=by kernel_rfl
theorem gRows : Tryz.prog.globalNamed "endonym/table.rows" = some 1 := by kernel_rfl
theorem gRowsType:(Tryz.prog.globals[1]?).map (·.type)=some 262:=by kernel_rfl
theorem ba_of {a b:ByteArray} (h:a.data.toList=b.data.toList):a=b:=by
 cases a; cases b
 simp_all
def rowL (r:Row9):List Value:=[.string r.word,.int .i64 r.fam,.int .i64 r.least,.int .i64 r.most,.int .i64 r.low,.int .i64 r.high,.string r.said,.int .i64 r.scr,.bool r.wei]
section
variable {enc:TypeId × Value→Unit} {W:World} {base:Nat} {sp:Nat→Bool} {held:Bool}
set_option maxRecDepth 20000 in
set_option maxHeartbeats 2000000 in
theorem row_cells {fuel:Nat} {cs:List Value} {r:Row9} {p:List MemPlace} (h:DataW.trod enc Tryz.prog W base sp held fuel 250 cs=some (rowD r,p)):cs=rowL r:=by
 obtain ⟨xs,k,hk,hxy,hcl,hxl,hf⟩:=DataW.trod_struct Tryz.underlying250 h
 have c9:Tryz.prog.cellsOf 250=9:=by kernel_rfl
 have c1:Tryz.prog.cellsOf 3=1:=by kernel_rfl
 have c3:Tryz.prog.cellsOf 9=1:=by kernel_rfl
 have c4:Tryz.prog.cellsOf 4=1:=by kernel_rfl
 rw [c9] at hcl
 match xs,hxl,cs,hcl with
 | [y0,y1,y2,y3,y4,y5,y6,y7,y8],_,[v0,v1,v2,v3,v4,v5,v6,v7,v8],_ =>
  have hd:[y0.1,y1.1,y2.1,y3.1,y4.1,y5.1,y6.1,y7.1,y8.1]=[.lit (.string r.word.data.toList),.lit (.int .i64 r.fam),.lit (.int .i64 r.least),.lit (.int .i64 r.most),.lit (.int .i64 r.low),.lit (.int .i64 r.high),.lit (.string r.said.data.toList),.lit (.int .i64 r.scr),.lit (.bool r.wei)]:=by
   have:=congrArg Prod.fst hxy
   simpa [rowD] using this.symm
  simp only [List.cons.injEq,and_true] at hd
  obtain ⟨d0,d1,d2,d3,d4,d5,d6,d7,d8⟩:=hd
  have g0:=hf 0 _ rfl
  have g1:=hf 1 _ rfl
  have g2:=hf 2 _ rfl
  have g3:=hf 3 _ rfl
  have g4:=hf 4 _ rfl
  have g5:=hf 5 _ rfl
  have g6:=hf 6 _ rfl
  have g7:=hf 7 _ rfl
  have g8:=hf 8 _ rfl
  simp [c1,c3,c4] at g0 g1 g2 g3 g4 g5 g6 g7 g8
  obtain ⟨s0,e0,q0,_⟩:=DataW.trod_string Tryz.underlying9 g0
  obtain ⟨n1,e1,q1,_⟩:=DataW.trod_int Tryz.underlying3 g1
  obtain ⟨n2,e2,q2,_⟩:=DataW.trod_int Tryz.underlying3 g2
  obtain ⟨n3,e3,q3,_⟩:=DataW.trod_int Tryz.underlying3 g3
  obtain ⟨n4,e4,q4,_⟩:=DataW.trod_int Tryz.underlying3 g4
  obtain ⟨n5,e5,q5,_⟩:=DataW.trod_int Tryz.underlying3 g5
  obtain ⟨s6,e6,q6,_⟩:=DataW.trod_string Tryz.underlying9 g6
  obtain ⟨n7,e7,q7,_⟩:=DataW.trod_int Tryz.underlying3 g7
  obtain ⟨b8,e8,q8⟩:=DataW.trod_bool Tryz.underlying4 g8
  rw [q0] at d0; rw [q1] at d1; rw [q2] at d2; rw [q3] at d3; rw [q4] at d4; rw [q5] at d5; rw [q6] at d6; rw [q7] at d7; rw [q8] at d8
  simp only [DataW.lit.injEq,Lit.string.injEq,Lit.int.injEq,Lit.bool.injEq,true_and] at d0 d1 d2 d3 d4 d5 d6 d7 d8
  simp only [List.cons.injEq,and_true] at e0 e1 e2 e3 e4 e5 e6 e7 e8
  rw [e0,e1,e2,e3,e4,e5,e6,e7,e8,ba_of d0,d1,d2,d3,d4,d5,ba_of d6,d7,d8]
  rfl
end
theorem plainLaid:(theLaid.all fun x=>x.2.handleName?.isNone)=true:=by kernel_rfl
theorem cellsRow:Tryz.prog.cellsOf 250=9:=by kernel_rfl
theorem glob_of {W:World} (h:laidMetH Tryz.prog theLaid W):Glob W:=by
 rw [MakeChecks.laidMetH_plain _ _ _ plainLaid] at h
 obtain ⟨ps,⟨g',t',cs,fuel,p,q,hg',ht',hvar,hd,_,_⟩,_⟩:=h
 obtain rfl:=Option.some.inj (gRows.symm.trans hg')
 obtain rfl:=Option.some.inj (gRowsType.symm.trans ht')
 obtain ⟨xs,m,_,hx,hcl,hxl,hel⟩:=DataW.trod_array Tryz.underlying262 hd
 have hxs:xs.map (·.1)=(List.range 16).map fun k=>rowD (Cn.rowT k):=by
  have h1:=congrArg Prod.fst hx
  have h2:(Rows.laid_endonym_table_rows:DataW Unit)=.agg (xs.map (·.1)):=h1
  rw [laid_rows] at h2
  simpa using h2.symm
 intro k hk
 have hxk:∃ pk,xs[k]?=some (rowD (Cn.rowT k),pk):=by
  have h1:(xs.map (·.1))[k]?=some (rowD (Cn.rowT k)):=by
   rw [hxs]
   simp [hk]
  rw [List.getElem?_map,Option.map_eq_some_iff] at h1
  obtain ⟨⟨a,b⟩,h2,h3⟩:=h1
  exact ⟨b,by rw [h2]; simp at h3; rw [h3]⟩
 obtain ⟨pk,hxk⟩:=hxk
 have h3:=hel k hk
 rw [hxk,cellsRow] at h3
 have h4:=row_cells h3
 have hcell:∀ j v,(rowL (Cn.rowT k))[j]?=some v→W.cell? ⟨1,k * 9+j,none⟩=some v:=fun j v hv=>by
  have hc:=World.var?_cell gRows hvar (k * 9+j)
  rw [← h4] at hv
  have hj:j<9:=by
   rcases Nat.lt_or_ge j 9 with hh | hh
   ·exact hh
   ·rw [List.getElem?_eq_none (by rw [List.length_take]; omega)] at hv; cases hv
  rw [List.getElem?_take_of_lt hj,List.getElem?_drop] at hv
  rw [hc]
  simpa using hv
 exact ⟨hcell 0 _ rfl,hcell 1 _ rfl,hcell 2 _ rfl,hcell 3 _ rfl,hcell 4 _ rfl,hcell 5 _ rfl,hcell 6 _ rfl,hcell 7 _ rfl,hcell 8 _ rfl⟩
theorem own:ownKnob Tryz.prog.godebug=none:=by kernel_rfl
theorem laidOut:laidOutB Tryz.prog=true:=by kernel_rfl
theorem start_met (os:Os) (args:Array Value):laidMetH Tryz.prog theLaid ((World.laidAll Tryz.prog os theLaid).forCall (fun _ _=>0) ⟨#[],args,[]⟩).memory:=by
 rw [MakeChecks.laidMetH_plain _ _ _ plainLaid]
 exact laidMet_laidAll _ (by kernel_rfl) (by kernel_rfl)
theorem start_shape (os:Os) (args:Array Value):((World.laidAll Tryz.prog os theLaid).forCall (fun _ _=>0) ⟨#[],args,[]⟩).Shaped Tryz.prog:=World.shaped_of_ZipB (by kernel_rfl) (by kernel_rfl)
theorem start_at {H:Type} {enc:TypeId × Value→H} {os:Os} {f:FuncId} {fn:Func} {s:OpenSpec} {conds:List PathCond} (args:Array Value)
  (hok:Input.okWideB Tryz.checked.prog ((World.laidAll Tryz.prog os theLaid).forCall (fun _ _=>0) ⟨#[],args,[]⟩) f ⟨#[],args,[]⟩=true)
  (hrow:s.preRow enc Tryz.checked.prog fn conds false theLaid ((World.laidAll Tryz.prog os theLaid).forCall (fun _ _=>0) ⟨#[],args,[]⟩).memory args) :
  ∃ (w:World) (tape:Tape) (i:Input),w.os=os∧(w.forCall tape i).Shaped Tryz.checked.prog∧i.vars=[]∧Input.okWide Tryz.checked.prog (w.forCall tape i) .any w.heap.size f i ∧
   s.preRow enc Tryz.checked.prog fn conds false theLaid (w.forCall tape i).memory i.args∧({}:Assume).holds Tryz.checked.prog (lone (Frame.enter Tryz.checked.prog f i.args .normal) [] (w.forCall tape i)) :=
 ⟨World.laidAll Tryz.prog os theLaid,fun _ _=>0,⟨#[],args,[]⟩,World.laidAll_os _ _ _,start_shape os args,(Input.okWide_of_okWideB (base:=0) hok).1,(Input.okWide_of_okWideB hok).2,hrow,by
  simp only [Assume.holds]
  exact ⟨by simp,by simp,fun _=>Modest.zero,by simp,by simp⟩⟩
end Go.Proofs.YtihhhjodonkkcaaGreatDoor
