/- The contracts of scalar's Sound and ASCII. -/
import Derived.Test.YtchjnplceelgoaaScE
import Derived.Test.YtchjnplceelgoaaLEnc3
namespace Go.Proofs.Ytchjnplceelgoaa
open Go.RowKit

theorem soundC : SoundC := by
  intro v xs w hv
  have H := hide (firstUnsound_any v xs w hv)
  have hq : allb okb xs = decide (fb (fun c => !okb c) 0 xs < 0) := by rw [fb_all]; simp [allb]
  rw [hq]
  clear hv hq
  generalize fb (fun c => !okb c) 0 xs = r at *
  go_enter Try.func18, Try.ntmps18
  go_wp2_with fail
  refine (unhide H).mono ?_
  rintro e w ⟨rfl, rfl⟩
  clear H
  go_wp2
  go_ret
  exact ⟨rfl, Below.refl _ _⟩

theorem ascii1_any (c : Int) (w : World) (h : -2147483648 ≤ c ∧ c ≤ 2147483647) :
    Calls Try.prog 37 #[.int .i32 c] w fun e w' => e = .returned (.bool (!ascb c)) ∧ w' = w := by
  by_cases h1 : c < 0
  · have hk : (!ascb c) = true := by simp [ascb]; omega
    rw [hk]
    go_enter Try.func37, Try.ntmps37
    go_wp2
    go_ret
    exact ⟨rfl, rfl⟩
  · by_cases h2 : c > 127
    · have hk : (!ascb c) = true := by simp [ascb]; omega
      rw [hk]
      go_enter Try.func37, Try.ntmps37
      go_wp2
      go_ret
      exact ⟨rfl, rfl⟩
    · have hk : (!ascb c) = false := by simp [ascb]; omega
      rw [hk]
      go_enter Try.func37, Try.ntmps37
      go_wp2
      go_ret
      exact ⟨rfl, rfl⟩

theorem enters_asc : ∀ args w, (callFunc 37 args).run Try.prog w = .ok (.enter 37 args) w := enters_of Try.func37 (by kernel_rfl) rfl

theorem containsFunc_any (v : Value) (xs : List Int) (w : World) (hv : Sk .i32 w v xs) :
    Calls Try.prog 36 #[v, .func (.func 37) #[] #[]] w fun e w' => e = .returned (.bool (!allb ascb xs)) ∧ w' = w := by
  have H := hide (indexFunc_any (fun c => !ascb c) 37 ascii1_any enters_asc v xs w hv)
  have hq : (!allb ascb xs) = decide (0 ≤ fb (fun c => !ascb c) 0 xs) := by
    have h := fb_all (fun c => !ascb c) 0 xs
    have e : allb ascb xs = decide (fb (fun c => !ascb c) 0 xs < 0) := by rw [h]; simp [allb]
    rw [e, ← decide_not]; congr 1; apply propext; omega
  rw [hq]
  clear hv hq
  generalize fb (fun c => !ascb c) 0 xs = r at *
  go_enter Try.func36, Try.ntmps36
  go_wp2_with fail
  refine (unhide H).mono ?_
  rintro e w ⟨rfl, rfl⟩
  clear H
  go_wp2
  go_ret
  exact ⟨rfl, rfl⟩

theorem asciiC : AsciiC := by
  intro v xs w hv
  have H := hide (containsFunc_any v xs w hv)
  have hq : allb ascb xs = !!allb ascb xs := by simp
  rw [hq]
  clear hv hq
  generalize (!allb ascb xs) = r at *
  go_enter Try.func20, Try.ntmps20
  go_wp2_with fail
  refine (unhide H).mono ?_
  rintro e w ⟨rfl, rfl⟩
  clear H
  go_wp2
  go_ret
  exact ⟨rfl, Below.refl _ _⟩
end Go.Proofs.Ytchjnplceelgoaa
