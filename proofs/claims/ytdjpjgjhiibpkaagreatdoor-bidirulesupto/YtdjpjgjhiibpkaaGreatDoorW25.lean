/- Un9 -/
import Derived.Test.YtdjpjgjhiibpkaaGreatDoorW15
import Derived.Laws.Externs
import Derived.Laws.FloatArith
namespace Go.Proofs.YtdjpjgjhiibpkaaGreatDoor
open Go.RowKit
def isNaNB (b:Nat):Bool:=FloatKind.f64.format.order b b != some Ordering.eq
theorem uIsNaN_any (b:Nat) (w:World):Calls Tryz.prog 124 #[.float .f64 b] w fun e w'=>e=.returned (.bool (isNaNB b))∧w'=w:=by
 go_enter Tryz.func124,Tryz.ntmps124
 go_wp2
 go_ret
 exact ⟨rfl,rfl⟩
theorem ufrombits (n:Int) (w:World):(callFunc 151 #[.int .u64 n]).run Tryz.prog w=.ok (.value (.float .f64 n.toNat)) w:=by
 rw [run_callFunc_extern (e:=Extern.MathFloatBits.float64frombits) Tryz.func151 (by kernel_rfl) (by kernel_rfl) (by kernel_rfl) (by kernel_rfl)]
 rfl
theorem ufloat_any (n:Int) (w:World):Calls Tryz.prog 125 #[.int .u64 n] w fun e w'=>e=.returned (.float .f64 n.toNat)∧w'=w:=by
 have h:=ufrombits n
 go_enter Tryz.func125,Tryz.ntmps125
 go_wp2
 go_ret
 exact ⟨rfl,rfl⟩
theorem to32 (b:Nat) (w:World):∃ u n,(convert 48 192 (.float .f64 b)).run Tryz.prog w=.ok (.float .f32 u) (w.drewN n):=by
 have hs:=Tryz.underlying48
 have hd:=Tryz.underlying192
 have key:∃ u n,(Conv.floatToFloat .f64 b .f32).run Tryz.prog w=.ok (.float .f32 u) (w.drewN n):=by
  unfold Conv.floatToFloat
  rw [if_neg (by decide)]
  split
  ·rw [Sem.run_bind,run_choose_drew]
   split
   ·exact ⟨_,0,rfl⟩
   ·exact ⟨_,1,rfl⟩
  ·exact ⟨_,0,rfl⟩
  ·dsimp only
   split
   ·rw [Sem.run_bind,run_choose_drew]
    split
    ·exact ⟨_,0,rfl⟩
    ·exact ⟨_,1,rfl⟩
   ·exact ⟨_,0,rfl⟩
 obtain ⟨u,n,h⟩:=key
 refine ⟨u,n,?_⟩
 rw [← h]
 simp [convert,run_underlying hs,run_underlying hd]
theorem to64 (b:Nat) (w:World):∃ u n,(convert 192 48 (.float .f32 b)).run Tryz.prog w=.ok (.float .f64 u) (w.drewN n):=by
 have hs:=Tryz.underlying192
 have hd:=Tryz.underlying48
 have key:∃ u n,(Conv.floatToFloat .f32 b .f64).run Tryz.prog w=.ok (.float .f64 u) (w.drewN n):=by
  unfold Conv.floatToFloat
  rw [if_neg (by decide)]
  split
  ·rw [Sem.run_bind,run_choose_drew]
   split
   ·exact ⟨_,0,rfl⟩
   ·exact ⟨_,1,rfl⟩
  ·exact ⟨_,0,rfl⟩
  ·dsimp only
   split
   ·rw [Sem.run_bind,run_choose_drew]
    split
    ·exact ⟨_,0,rfl⟩
    ·exact ⟨_,1,rfl⟩
   ·exact ⟨_,0,rfl⟩
 obtain ⟨u,n,h⟩:=key
 refine ⟨u,n,?_⟩
 rw [← h]
 simp [convert,run_underlying hs,run_underlying hd]
theorem narrow_some (b:Nat) (w:World):Calls Tryz.prog 99 #[.float .f64 b] w fun e w'=>∃ u n,e=.returned (.float .f64 u)∧w'=w.drewN n:=by
 have K1:=Hd (uIsNaN_any b w)
 have K2:=Hd (fun w=>ufloat_any 9221120237041090560 w)
 obtain ⟨u1,n1,h1⟩:=to32 b w
 obtain ⟨u2,n2,h2⟩:=to64 u1 (w.drewN n1)
 generalize isNaNB b=t at *
 cases t with
 | true =>
  go_enter Tryz.func99,Tryz.ntmps99
  go_wp2_with fail
  refine (Uh K1).mono ?_
  rintro e w ⟨rfl,rfl⟩
  go_wp2_with fail
  refine ((Uh K2) _).mono ?_
  rintro e w ⟨rfl,rfl⟩
  clear K1 K2
  go_wp2
  go_ret
  exact ⟨_,0,rfl,rfl⟩
 | false =>
  go_enter Tryz.func99,Tryz.ntmps99
  go_wp2_with fail
  refine (Uh K1).mono ?_
  rintro e w ⟨rfl,rfl⟩
  clear K1 K2
  go_wp2
  go_ret
  exact ⟨_,n1+n2,rfl,by first | rfl | (simp [World.drewN]; omega)⟩
end Go.Proofs.YtdjpjgjhiibpkaaGreatDoor
