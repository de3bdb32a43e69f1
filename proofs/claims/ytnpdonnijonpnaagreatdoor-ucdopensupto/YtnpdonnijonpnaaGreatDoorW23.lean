/- Un9 Uk9 -/
import Derived.Test.YtnpdonnijonpnaaGreatDoorW13
import Derived.Laws.Externs
import Derived.Laws.FloatArith
namespace Go.Proofs.YtnpdonnijonpnaaGreatDoor
open Go.RowKit
def isNaNB (b:Nat):Bool:=FloatKind.f64.format.order b b != some Ordering.eq
theorem uIsNaN_any (b:Nat) (w:World):Calls Tryz.prog 71 #[.float .f64 b] w fun e w'=>e=.returned (.bool (isNaNB b))∧w'=w:=by
 go_enter Tryz.func71,Tryz.ntmps71
 go_wp2
 go_ret
 exact ⟨rfl,rfl⟩
theorem ufrombits (n:Int) (w:World):(callFunc 100 #[.int .u64 n]).run Tryz.prog w=.ok (.value (.float .f64 n.toNat)) w:=by
 rw [run_callFunc_extern (e:=Extern.MathFloatBits.float64frombits) Tryz.func100 (by kernel_rfl) (by kernel_rfl) (by kernel_rfl) (by kernel_rfl)]
 rfl
theorem ufloat_any (n:Int) (w:World):Calls Tryz.prog 72 #[.int .u64 n] w fun e w'=>e=.returned (.float .f64 n.toNat)∧w'=w:=by
 have h:=ufrombits n
 go_enter Tryz.func72,Tryz.ntmps72
 go_wp2
 go_ret
 exact ⟨rfl,rfl⟩
theorem to32 (b:Nat) (w:World):∃ u n,(convert 42 117 (.float .f64 b)).run Tryz.prog w=.ok (.float .f32 u) (w.drewN n):=by
 have hs:=Tryz.underlying42
 have hd:=Tryz.underlying117
 have key:∃ u n,(Conv.floatToFloat .f64 b .f32).run Tryz.prog w=.ok (.float .f32 u) (w.drewN n):=by
  unfold Conv.floatToFloat
  rw [if_neg (by decide)]
  split
  ·rw [Sem.run_bind,run_choose_drew]
   split
   ·exact ⟨_,0,rfl⟩
   ·exact ⟨_,1,rfl⟩
  ·exact ⟨_,0,rfl⟩
  ·dsimp only
   split
   ·rw [Sem.run_bind,run_choose_drew]
    split
    ·exact ⟨_,0,rfl⟩
    ·exact ⟨_,1,rfl⟩
   ·exact ⟨_,0,rfl⟩
 obtain ⟨u,n,h⟩:=key
 refine ⟨u,n,?_⟩
 rw [← h]
 simp [convert,run_underlying hs,run_underlying hd]
theorem to64 (b:Nat) (w:World):∃ u n,(convert 117 42 (.float .f32 b)).run Tryz.prog w=.ok (.float .f64 u) (w.drewN n):=by
 have hs:=Tryz.underlying117
 have hd:=Tryz.underlying42
 have key:∃ u n,(Conv.floatToFloat .f32 b .f64).run Tryz.prog w=.ok (.float .f64 u) (w.drewN n):=by
  unfold Conv.floatToFloat
  rw [if_neg (by decide)]
  split
  ·rw [Sem.run_bind,run_choose_drew]
   split
   ·exact ⟨_,0,rfl⟩
   ·exact ⟨_,1,rfl⟩
  ·exact ⟨_,0,rfl⟩
  ·dsimp only
   split
   ·rw [Sem.run_bind,run_choose_drew]
    split
    ·exact ⟨_,0,rfl⟩
    ·exact ⟨_,1,rfl⟩
   ·exact ⟨_,0,rfl⟩
 obtain ⟨u,n,h⟩:=key
 refine ⟨u,n,?_⟩
 rw [← h]
 simp [convert,run_underlying hs,run_underlying hd]
theorem narrow_some (b:Nat) (w:World):Calls Tryz.prog 47 #[.float .f64 b] w fun e w'=>∃ u n,e=.returned (.float .f64 u)∧w'=w.drewN n:=by
 have K1:=Hd (uIsNaN_any b w)
 have K2:=Hd (fun w=>ufloat_any 9221120237041090560 w)
 obtain ⟨u1,n1,h1⟩:=to32 b w
 obtain ⟨u2,n2,h2⟩:=to64 u1 (w.drewN n1)
 generalize isNaNB b=t at *
 cases t with
 | true =>
  go_enter Tryz.func47,Tryz.ntmps47
  go_wp2_with fail
  refine (Uh K1).mono ?_
  rintro e w ⟨rfl,rfl⟩
  go_wp2_with fail
  refine ((Uh K2) _).mono ?_
  rintro e w ⟨rfl,rfl⟩
  clear K1 K2
  go_wp2
  go_ret
  exact ⟨_,0,rfl,rfl⟩
 | false =>
  go_enter Tryz.func47,Tryz.ntmps47
  go_wp2_with fail
  refine (Uh K1).mono ?_
  rintro e w ⟨rfl,rfl⟩
  clear K1 K2
  go_wp2
  go_ret
  exact ⟨_,n1+n2,rfl,by first | rfl | (simp [World.drewN]; omega)⟩
namespace Cn
def within (c a b:Int):Bool:=decide (a≤c∧c≤b)
def bare2 (c:Int):Bool:=syl c && decide ((c - 44032) % 28=0)
def sylOf (a b:Int):Int × Bool :=
 if (jl a && jv b)=true then (44032+((a - 4352) * 21+b - 4449) * 28,true) else if (bare2 a && jt b)=true then (a+b - 4520+1,true) else (0,false)
end Cn
theorem uwithin_any (c a b:Int) (w:World):Calls Tryz.prog 53 #[.int .i32 c,.int .i32 a,.int .i32 b] w fun e w'=>e=.returned (.bool (Cn.within c a b))∧w'=w:=by
 unfold Cn.within
 by_cases h1:a≤c
 ·by_cases h2:c≤b
  ·rw [decide_eq_true ⟨h1,h2⟩]
   go_enter Tryz.func53,Tryz.ntmps53
   go_wp2
   go_ret
   exact ⟨rfl,rfl⟩
  ·rw [decide_eq_false (fun h=>h2 h.2)]
   have d2:decide (c≤b)=false:=decide_eq_false h2
   clear h2
   go_enter Tryz.func53,Tryz.ntmps53
   go_wp2
   go_ret
   exact ⟨rfl,rfl⟩
 ·rw [decide_eq_false (fun h=>h1 h.1)]
  have d1:decide (a≤c)=false:=decide_eq_false h1
  clear h1
  go_enter Tryz.func53,Tryz.ntmps53
  go_wp2
  go_ret
  exact ⟨rfl,rfl⟩
theorem uends_any (c:Int) (w:World):Calls Tryz.prog 35 #[.int .i32 c] w fun e w'=>e=.returned (.bool (Cn.jv c || Cn.jt c))∧w'=w:=by
 have K1:=Hd (uwithin_any c 4449 4469 w)
 have K2:=Hd (uwithin_any c 4520 4546 w)
 have e1:Cn.within c 4449 4469=Cn.jv c:=rfl
 have e2:Cn.within c 4520 4546=Cn.jt c:=rfl
 rw [e1] at K1
 rw [e2] at K2
 clear e1 e2
 generalize Cn.jv c=b1 at *
 generalize Cn.jt c=b2 at *
 go_enter Tryz.func35,Tryz.ntmps35
 go_wp2_with fail
 refine (Uh K1).mono ?_
 rintro e w ⟨rfl,rfl⟩
 clear K1
 cases b1 with
 | true =>
  clear K2
  go_wp2
  go_ret
  exact ⟨rfl,rfl⟩
 | false =>
  go_wp2_with fail
  refine (Uh K2).mono ?_
  rintro e w ⟨rfl,rfl⟩
  clear K2
  go_wp2
  go_ret
  exact ⟨rfl,rfl⟩
theorem ubare_any (c:Int) (w:World):Calls Tryz.prog 56 #[.int .i32 c] w fun e w'=>e=.returned (.bool (Cn.bare2 c))∧w'=w:=by
 have K1:=Hd (uwithin_any c 44032 55203 w)
 have e1:Cn.within c 44032 55203=Cn.syl c:=rfl
 rw [e1] at K1
 clear e1
 unfold Cn.bare2
 by_cases hs:Cn.syl c=true
 ·have hs2:44032≤c∧c≤55203:=of_decide_eq_true hs
  obtain ⟨s0,s1⟩:=hs2
  rw [hs] at K1 ⊢
  have e1:(c - 44032).tmod 28=(c - 44032) % 28:=Int.tmod_eq_emod_of_nonneg (by omega)
  clear hs
  obtain ⟨md,hmd⟩:∃ md,decide ((c - 44032) % 28=0)=md:=⟨_,rfl⟩
  rw [hmd]
  have HB:((c - 44032) % 28==0)=md:=by rw [← hmd]; rfl
  clear hmd
  go_enter Tryz.func56,Tryz.ntmps56
  go_wp2_with fail
  refine (Uh K1).mono ?_
  rintro e w ⟨rfl,rfl⟩
  clear K1
  go_wp2
  go_ret
  exact ⟨rfl,rfl⟩
 ·rw [Bool.not_eq_true] at hs
  rw [hs] at K1 ⊢
  clear hs
  go_enter Tryz.func56,Tryz.ntmps56
  go_wp2_with fail
  refine (Uh K1).mono ?_
  rintro e w ⟨rfl,rfl⟩
  clear K1
  go_wp2
  go_ret
  exact ⟨rfl,rfl⟩
set_option maxHeartbeats 1000000 in
theorem usyllable_any (a b:Int) (w:World):Calls Tryz.prog 37 #[.int .i32 a,.int .i32 b] w fun e w'=>e=.returned (.tuple #[.int .i32 (Cn.sylOf a b).1,.bool (Cn.sylOf a b).2])∧w'=w:=by
 have K1:Hid (∀ w,Calls Tryz.prog 53 #[.int .i32 a,.int .i32 4352,.int .i32 4370] w fun e w'=>e=.returned (.bool (Cn.jl a))∧w'=w):=fun w=>uwithin_any a 4352 4370 w
 have K2:Hid (∀ w,Calls Tryz.prog 53 #[.int .i32 b,.int .i32 4449,.int .i32 4469] w fun e w'=>e=.returned (.bool (Cn.jv b))∧w'=w):=fun w=>uwithin_any b 4449 4469 w
 have K3:=Hd (fun w=>ubare_any a w)
 have K4:Hid (∀ w,Calls Tryz.prog 53 #[.int .i32 b,.int .i32 4520,.int .i32 4546] w fun e w'=>e=.returned (.bool (Cn.jt b))∧w'=w):=fun w=>uwithin_any b 4520 4546 w
 have h1:Cn.jl a=true→4352≤a∧a≤4370:=fun h=>of_decide_eq_true h
 have h2:Cn.jv b=true→4449≤b∧b≤4469:=fun h=>of_decide_eq_true h
 have h3:Cn.bare2 a=true→44032≤a∧a≤55203:=fun h=>by
  unfold Cn.bare2 at h
  rw [Bool.and_eq_true] at h
  exact of_decide_eq_true h.1
 have h4:Cn.jt b=true→4520≤b∧b≤4546:=fun h=>of_decide_eq_true h
 unfold Cn.sylOf
 generalize Cn.jl a=q1 at *
 generalize Cn.jv b=q2 at *
 generalize Cn.bare2 a=q3 at *
 generalize Cn.jt b=q4 at *
 replace h1:=Hd h1
 replace h2:=Hd h2
 replace h3:=Hd h3
 replace h4:=Hd h4
 by_cases c1:(q1 && q2)=true
 ·rw [if_pos c1]
  obtain ⟨rfl,rfl⟩:q1=true∧q2=true:=by simpa using c1
  obtain ⟨a1,a2⟩:=(Uh h1) rfl
  obtain ⟨b1,b2⟩:=(Uh h2) rfl
  clear c1 h1 h2 h3 h4 K3 K4
  go_enter Tryz.func37,Tryz.ntmps37
  go_wp2_with fail
  refine ((Uh K1) _).mono ?_
  rintro e w ⟨rfl,rfl⟩
  go_wp2_with fail
  refine ((Uh K2) _).mono ?_
  rintro e w ⟨rfl,rfl⟩
  clear K1 K2
  go_wp2
  go_ret2
  exact ⟨by first | rfl | simp,rfl⟩
 ·rw [if_neg c1]
  clear h1 h2
  cases q1 with
  | false =>
   clear c1 K2
   cases q3 with
   | false =>
    rw [if_neg (by simp)]
    clear K4 h3 h4
    go_enter Tryz.func37,Tryz.ntmps37
    go_wp2_with fail
    refine ((Uh K1) _).mono ?_
    rintro e w ⟨rfl,rfl⟩
    clear K1
    go_wp2_with fail
    refine ((Uh K3) _).mono ?_
    rintro e w ⟨rfl,rfl⟩
    clear K3
    go_wp2
    go_ret2
    exact ⟨rfl,rfl⟩
   | true =>
    cases q4 with
    | false =>
     rw [if_neg (by simp)]
     clear h3 h4
     go_enter Tryz.func37,Tryz.ntmps37
     go_wp2_with fail
     refine ((Uh K1) _).mono ?_
     rintro e w ⟨rfl,rfl⟩
     clear K1
     go_wp2_with fail
     refine ((Uh K3) _).mono ?_
     rintro e w ⟨rfl,rfl⟩
     go_wp2_with fail
     refine ((Uh K4) _).mono ?_
     rintro e w ⟨rfl,rfl⟩
     clear K3 K4
     go_wp2
     go_ret2
     exact ⟨rfl,rfl⟩
    | true =>
     rw [if_pos (show (true && true)=true from rfl)]
     obtain ⟨a1,a2⟩:=(Uh h3) rfl
     obtain ⟨b1,b2⟩:=(Uh h4) rfl
     clear h3 h4
     go_enter Tryz.func37,Tryz.ntmps37
     go_wp2_with fail
     refine ((Uh K1) _).mono ?_
     rintro e w ⟨rfl,rfl⟩
     clear K1
     go_wp2_with fail
     refine ((Uh K3) _).mono ?_
     rintro e w ⟨rfl,rfl⟩
     go_wp2_with fail
     refine ((Uh K4) _).mono ?_
     rintro e w ⟨rfl,rfl⟩
     clear K3 K4
     go_wp2
     go_ret2
     exact ⟨by first | rfl | simp,rfl⟩
  | true =>
   obtain rfl:q2=false:=by cases q2 <;> simp_all
   clear c1
   cases q3 with
   | false =>
    rw [if_neg (by simp)]
    clear K4 h3 h4
    go_enter Tryz.func37,Tryz.ntmps37
    go_wp2_with fail
    refine ((Uh K1) _).mono ?_
    rintro e w ⟨rfl,rfl⟩
    go_wp2_with fail
    refine ((Uh K2) _).mono ?_
    rintro e w ⟨rfl,rfl⟩
    clear K1 K2
    go_wp2_with fail
    refine ((Uh K3) _).mono ?_
    rintro e w ⟨rfl,rfl⟩
    clear K3
    go_wp2
    go_ret2
    exact ⟨rfl,rfl⟩
   | true =>
    cases q4 with
    | false =>
     rw [if_neg (by simp)]
     clear h3 h4
     go_enter Tryz.func37,Tryz.ntmps37
     go_wp2_with fail
     refine ((Uh K1) _).mono ?_
     rintro e w ⟨rfl,rfl⟩
     go_wp2_with fail
     refine ((Uh K2) _).mono ?_
     rintro e w ⟨rfl,rfl⟩
     clear K1 K2
     go_wp2_with fail
     refine ((Uh K3) _).mono ?_
     rintro e w ⟨rfl,rfl⟩
     go_wp2_with fail
     refine ((Uh K4) _).mono ?_
     rintro e w ⟨rfl,rfl⟩
     clear K3 K4
     go_wp2
     go_ret2
     exact ⟨rfl,rfl⟩
    | true =>
     rw [if_pos (show (true && true)=true from rfl)]
     obtain ⟨a1,a2⟩:=(Uh h3) rfl
     obtain ⟨b1,b2⟩:=(Uh h4) rfl
     clear h3 h4
     go_enter Tryz.func37,Tryz.ntmps37
     go_wp2_with fail
     refine ((Uh K1) _).mono ?_
     rintro e w ⟨rfl,rfl⟩
     go_wp2_with fail
     refine ((Uh K2) _).mono ?_
     rintro e w ⟨rfl,rfl⟩
     clear K1 K2
     go_wp2_with fail
     refine ((Uh K3) _).mono ?_
     rintro e w ⟨rfl,rfl⟩
     go_wp2_with fail
     refine ((Uh K4) _).mono ?_
     rintro e w ⟨rfl,rfl⟩
     clear K3 K4
     go_wp2
     go_ret2
     exact ⟨by first | rfl | simp,rfl⟩
end Go.Proofs.YtnpdonnijonpnaaGreatDoor
