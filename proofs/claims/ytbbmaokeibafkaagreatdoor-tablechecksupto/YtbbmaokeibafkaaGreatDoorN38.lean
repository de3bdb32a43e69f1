import Derived.Test.YtbbmaokeibafkaaGreatDoorN19
namespace Go.Proofs.YtbbmaokeibafkaaGreatDoor
open Go.RowKit
theorem refWeight_any (u : Nat) (w : World) (hu : u < 18446744073709551616) : Calls Tryz.prog 39 #[.float .f64 u] w fun e w' => e = .returned (.bool (Cn.weight u)) ∧ w' = w := by
  have K := hide (bits_any u w)
  unfold Cn.weight
  by_cases h1 : u ≤ 9218868437227405312
  · rw [decide_eq_true h1]
    have h2 : (u : Int) ≤ 9218868437227405312 := by omega
    go_enter Tryz.func39, Tryz.ntmps39
    go_wp2_with fail
    refine (unhide K).mono ?_
    rintro e w1 ⟨rfl, rfl⟩
    clear K
    go_wp2
    go_ret
    exact ⟨rfl, rfl⟩
  · rw [decide_eq_false h1]
    have h2 : ¬ (u : Int) ≤ 9218868437227405312 := by omega
    go_enter Tryz.func39, Tryz.ntmps39
    go_wp2_with fail
    refine (unhide K).mono ?_
    rintro e w1 ⟨rfl, rfl⟩
    clear K
    go_wp2
    go_ret
    refine ⟨?_, rfl⟩
    show Ending.returned (.bool (decide ((u : Int) ≤ 9218868437227405312))) = _
    rw [decide_eq_false (by omega)]
theorem empty_of {b : ByteArray} (h : b.size = 0) : b = ⟨#[]⟩ := by
  obtain ⟨⟨l⟩⟩ := b
  have : l = [] := by simpa [ByteArray.size] using h
  subst this; rfl
theorem list_ne {b : ByteArray} (h : ¬ b.size = 0) : ¬ b.toList = [] := fun e => h (by
  have : b.data.toList.length = 0 := by rw [← ByteArray.toList_eq, e]; rfl
  show b.data.size = 0
  rw [← Array.length_toList]
  exact this)
def bareB (n0 : Int) (m : Nat) (nm ot : ByteArray) (wt : Nat) (nf tof namef otherf wf : Bool) : Bool :=
  (nf || decide (n0 = 0)) && (tof || decide (m = 0)) && (namef || decide (nm.size = 0)) && (otherf || decide (ot.size = 0)) && (wf || decide (wt = 0))
set_option maxHeartbeats 8000000 in
theorem bare_true (kd lo hi n0 : Int) (ao : Option Addr) (m cap : Nat) (nm ot : ByteArray) (wt : Nat) (tof namef otherf wf : Bool) (w : World) : Calls Tryz.prog 37 #[.agg #[.int .i64 kd, .int .i64 lo, .int .i64 hi, .int .i64 n0, .slice ao m cap, .string nm, .string ot, .float .f64 wt], .bool true, .bool tof, .bool namef, .bool otherf, .bool wf] w (BoolB w (bareB n0 m nm ot wt true tof namef otherf wf)) := by
  have hb : ∀ o, Below w.heap.size w (w.alloc o) := fun o => (Below.refl _ _).alloc (Nat.le_refl _) o
  have HB := hide hb
  clear hb
  have HBT := hide (fun w => bits_any wt w)
  cases tof with
  | true =>
    cases namef with
    | true =>
      cases otherf with
      | true =>
        cases wf with
        | true =>
          rw [show bareB n0 m nm ot wt true true true true true = true from by simp [bareB, *] <;> rfl]
          go_enter Tryz.func37, Tryz.ntmps37
          go_wp2
          go_ret
          exact ⟨rfl, (unhide HB) _⟩
        | false =>
          by_cases c4 : wt = 0
          · subst c4
            rw [show bareB n0 m nm ot 0 true true true true false = true from by simp [bareB, *] <;> rfl]
            go_enter Tryz.func37, Tryz.ntmps37
            go_wp2_with fail
            refine (unhide HBT _).mono ?_
            rintro e w1 ⟨rfl, rfl⟩
            go_wp2
            go_ret
            exact ⟨rfl, (unhide HB) _⟩
          · have q4 : ((wt : Int) == 0) = false := beq_eq_false_iff_ne.2 (by omega)
            rw [show bareB n0 m nm ot wt true true true true false = false from by simp [bareB, *] <;> rfl]
            go_enter Tryz.func37, Tryz.ntmps37
            go_wp2_with fail
            refine (unhide HBT _).mono ?_
            rintro e w1 ⟨rfl, rfl⟩
            go_wp2
            go_ret
            exact ⟨rfl, (unhide HB) _⟩
      | false =>
        by_cases c3 : ot.size = 0
        · obtain rfl := empty_of c3
          clear c3
          cases wf with
          | true =>
            rw [show bareB n0 m nm ⟨#[]⟩ wt true true true false true = true from by simp [bareB, *] <;> rfl]
            go_enter Tryz.func37, Tryz.ntmps37
            go_wp2
            go_ret
            exact ⟨rfl, (unhide HB) _⟩
          | false =>
            by_cases c4 : wt = 0
            · subst c4
              rw [show bareB n0 m nm ⟨#[]⟩ 0 true true true false false = true from by simp [bareB, *] <;> rfl]
              go_enter Tryz.func37, Tryz.ntmps37
              go_wp2_with fail
              refine (unhide HBT _).mono ?_
              rintro e w1 ⟨rfl, rfl⟩
              go_wp2
              go_ret
              exact ⟨rfl, (unhide HB) _⟩
            · have q4 : ((wt : Int) == 0) = false := beq_eq_false_iff_ne.2 (by omega)
              rw [show bareB n0 m nm ⟨#[]⟩ wt true true true false false = false from by simp [bareB, *] <;> rfl]
              go_enter Tryz.func37, Tryz.ntmps37
              go_wp2_with fail
              refine (unhide HBT _).mono ?_
              rintro e w1 ⟨rfl, rfl⟩
              go_wp2
              go_ret
              exact ⟨rfl, (unhide HB) _⟩
        · have q3 := list_ne c3
          rw [show bareB n0 m nm ot wt true true true false wf = false from by simp [bareB, *] <;> rfl]
          go_enter Tryz.func37, Tryz.ntmps37
          go_wp2
          go_ret
          exact ⟨rfl, (unhide HB) _⟩
    | false =>
      by_cases c2 : nm.size = 0
      · obtain rfl := empty_of c2
        clear c2
        cases otherf with
        | true =>
          cases wf with
          | true =>
            rw [show bareB n0 m ⟨#[]⟩ ot wt true true false true true = true from by simp [bareB, *] <;> rfl]
            go_enter Tryz.func37, Tryz.ntmps37
            go_wp2
            go_ret
            exact ⟨rfl, (unhide HB) _⟩
          | false =>
            by_cases c4 : wt = 0
            · subst c4
              rw [show bareB n0 m ⟨#[]⟩ ot 0 true true false true false = true from by simp [bareB, *] <;> rfl]
              go_enter Tryz.func37, Tryz.ntmps37
              go_wp2_with fail
              refine (unhide HBT _).mono ?_
              rintro e w1 ⟨rfl, rfl⟩
              go_wp2
              go_ret
              exact ⟨rfl, (unhide HB) _⟩
            · have q4 : ((wt : Int) == 0) = false := beq_eq_false_iff_ne.2 (by omega)
              rw [show bareB n0 m ⟨#[]⟩ ot wt true true false true false = false from by simp [bareB, *] <;> rfl]
              go_enter Tryz.func37, Tryz.ntmps37
              go_wp2_with fail
              refine (unhide HBT _).mono ?_
              rintro e w1 ⟨rfl, rfl⟩
              go_wp2
              go_ret
              exact ⟨rfl, (unhide HB) _⟩
        | false =>
          by_cases c3 : ot.size = 0
          · obtain rfl := empty_of c3
            clear c3
            cases wf with
            | true =>
              rw [show bareB n0 m ⟨#[]⟩ ⟨#[]⟩ wt true true false false true = true from by simp [bareB, *] <;> rfl]
              go_enter Tryz.func37, Tryz.ntmps37
              go_wp2
              go_ret
              exact ⟨rfl, (unhide HB) _⟩
            | false =>
              by_cases c4 : wt = 0
              · subst c4
                rw [show bareB n0 m ⟨#[]⟩ ⟨#[]⟩ 0 true true false false false = true from by simp [bareB, *] <;> rfl]
                go_enter Tryz.func37, Tryz.ntmps37
                go_wp2_with fail
                refine (unhide HBT _).mono ?_
                rintro e w1 ⟨rfl, rfl⟩
                go_wp2
                go_ret
                exact ⟨rfl, (unhide HB) _⟩
              · have q4 : ((wt : Int) == 0) = false := beq_eq_false_iff_ne.2 (by omega)
                rw [show bareB n0 m ⟨#[]⟩ ⟨#[]⟩ wt true true false false false = false from by simp [bareB, *] <;> rfl]
                go_enter Tryz.func37, Tryz.ntmps37
                go_wp2_with fail
                refine (unhide HBT _).mono ?_
                rintro e w1 ⟨rfl, rfl⟩
                go_wp2
                go_ret
                exact ⟨rfl, (unhide HB) _⟩
          · have q3 := list_ne c3
            rw [show bareB n0 m ⟨#[]⟩ ot wt true true false false wf = false from by simp [bareB, *] <;> rfl]
            go_enter Tryz.func37, Tryz.ntmps37
            go_wp2
            go_ret
            exact ⟨rfl, (unhide HB) _⟩
      · have q2 := list_ne c2
        rw [show bareB n0 m nm ot wt true true false otherf wf = false from by simp [bareB, *] <;> rfl]
        go_enter Tryz.func37, Tryz.ntmps37
        go_wp2
        go_ret
        exact ⟨rfl, (unhide HB) _⟩
  | false =>
    by_cases c1 : m = 0
    · subst c1
      cases namef with
      | true =>
        cases otherf with
        | true =>
          cases wf with
          | true =>
            rw [show bareB n0 0 nm ot wt true false true true true = true from by simp [bareB, *] <;> rfl]
            go_enter Tryz.func37, Tryz.ntmps37
            go_wp2
            go_ret
            exact ⟨rfl, (unhide HB) _⟩
          | false =>
            by_cases c4 : wt = 0
            · subst c4
              rw [show bareB n0 0 nm ot 0 true false true true false = true from by simp [bareB, *] <;> rfl]
              go_enter Tryz.func37, Tryz.ntmps37
              go_wp2_with fail
              refine (unhide HBT _).mono ?_
              rintro e w1 ⟨rfl, rfl⟩
              go_wp2
              go_ret
              exact ⟨rfl, (unhide HB) _⟩
            · have q4 : ((wt : Int) == 0) = false := beq_eq_false_iff_ne.2 (by omega)
              rw [show bareB n0 0 nm ot wt true false true true false = false from by simp [bareB, *] <;> rfl]
              go_enter Tryz.func37, Tryz.ntmps37
              go_wp2_with fail
              refine (unhide HBT _).mono ?_
              rintro e w1 ⟨rfl, rfl⟩
              go_wp2
              go_ret
              exact ⟨rfl, (unhide HB) _⟩
        | false =>
          by_cases c3 : ot.size = 0
          · obtain rfl := empty_of c3
            clear c3
            cases wf with
            | true =>
              rw [show bareB n0 0 nm ⟨#[]⟩ wt true false true false true = true from by simp [bareB, *] <;> rfl]
              go_enter Tryz.func37, Tryz.ntmps37
              go_wp2
              go_ret
              exact ⟨rfl, (unhide HB) _⟩
            | false =>
              by_cases c4 : wt = 0
              · subst c4
                rw [show bareB n0 0 nm ⟨#[]⟩ 0 true false true false false = true from by simp [bareB, *] <;> rfl]
                go_enter Tryz.func37, Tryz.ntmps37
                go_wp2_with fail
                refine (unhide HBT _).mono ?_
                rintro e w1 ⟨rfl, rfl⟩
                go_wp2
                go_ret
                exact ⟨rfl, (unhide HB) _⟩
              · have q4 : ((wt : Int) == 0) = false := beq_eq_false_iff_ne.2 (by omega)
                rw [show bareB n0 0 nm ⟨#[]⟩ wt true false true false false = false from by simp [bareB, *] <;> rfl]
                go_enter Tryz.func37, Tryz.ntmps37
                go_wp2_with fail
                refine (unhide HBT _).mono ?_
                rintro e w1 ⟨rfl, rfl⟩
                go_wp2
                go_ret
                exact ⟨rfl, (unhide HB) _⟩
          · have q3 := list_ne c3
            rw [show bareB n0 0 nm ot wt true false true false wf = false from by simp [bareB, *] <;> rfl]
            go_enter Tryz.func37, Tryz.ntmps37
            go_wp2
            go_ret
            exact ⟨rfl, (unhide HB) _⟩
      | false =>
        by_cases c2 : nm.size = 0
        · obtain rfl := empty_of c2
          clear c2
          cases otherf with
          | true =>
            cases wf with
            | true =>
              rw [show bareB n0 0 ⟨#[]⟩ ot wt true false false true true = true from by simp [bareB, *] <;> rfl]
              go_enter Tryz.func37, Tryz.ntmps37
              go_wp2
              go_ret
              exact ⟨rfl, (unhide HB) _⟩
            | false =>
              by_cases c4 : wt = 0
              · subst c4
                rw [show bareB n0 0 ⟨#[]⟩ ot 0 true false false true false = true from by simp [bareB, *] <;> rfl]
                go_enter Tryz.func37, Tryz.ntmps37
                go_wp2_with fail
                refine (unhide HBT _).mono ?_
                rintro e w1 ⟨rfl, rfl⟩
                go_wp2
                go_ret
                exact ⟨rfl, (unhide HB) _⟩
              · have q4 : ((wt : Int) == 0) = false := beq_eq_false_iff_ne.2 (by omega)
                rw [show bareB n0 0 ⟨#[]⟩ ot wt true false false true false = false from by simp [bareB, *] <;> rfl]
                go_enter Tryz.func37, Tryz.ntmps37
                go_wp2_with fail
                refine (unhide HBT _).mono ?_
                rintro e w1 ⟨rfl, rfl⟩
                go_wp2
                go_ret
                exact ⟨rfl, (unhide HB) _⟩
          | false =>
            by_cases c3 : ot.size = 0
            · obtain rfl := empty_of c3
              clear c3
              cases wf with
              | true =>
                rw [show bareB n0 0 ⟨#[]⟩ ⟨#[]⟩ wt true false false false true = true from by simp [bareB, *] <;> rfl]
                go_enter Tryz.func37, Tryz.ntmps37
                go_wp2
                go_ret
                exact ⟨rfl, (unhide HB) _⟩
              | false =>
                by_cases c4 : wt = 0
                · subst c4
                  rw [show bareB n0 0 ⟨#[]⟩ ⟨#[]⟩ 0 true false false false false = true from by simp [bareB, *] <;> rfl]
                  go_enter Tryz.func37, Tryz.ntmps37
                  go_wp2_with fail
                  refine (unhide HBT _).mono ?_
                  rintro e w1 ⟨rfl, rfl⟩
                  go_wp2
                  go_ret
                  exact ⟨rfl, (unhide HB) _⟩
                · have q4 : ((wt : Int) == 0) = false := beq_eq_false_iff_ne.2 (by omega)
                  rw [show bareB n0 0 ⟨#[]⟩ ⟨#[]⟩ wt true false false false false = false from by simp [bareB, *] <;> rfl]
                  go_enter Tryz.func37, Tryz.ntmps37
                  go_wp2_with fail
                  refine (unhide HBT _).mono ?_
                  rintro e w1 ⟨rfl, rfl⟩
                  go_wp2
                  go_ret
                  exact ⟨rfl, (unhide HB) _⟩
            · have q3 := list_ne c3
              rw [show bareB n0 0 ⟨#[]⟩ ot wt true false false false wf = false from by simp [bareB, *] <;> rfl]
              go_enter Tryz.func37, Tryz.ntmps37
              go_wp2
              go_ret
              exact ⟨rfl, (unhide HB) _⟩
        · have q2 := list_ne c2
          rw [show bareB n0 0 nm ot wt true false false otherf wf = false from by simp [bareB, *] <;> rfl]
          go_enter Tryz.func37, Tryz.ntmps37
          go_wp2
          go_ret
          exact ⟨rfl, (unhide HB) _⟩
    · have q1 : ((m : Int) == 0) = false := beq_eq_false_iff_ne.2 (by omega)
      rw [show bareB n0 m nm ot wt true false namef otherf wf = false from by simp [bareB, *] <;> rfl]
      go_enter Tryz.func37, Tryz.ntmps37
      go_wp2
      go_ret
      exact ⟨rfl, (unhide HB) _⟩
set_option maxHeartbeats 8000000 in
theorem bare_false (kd lo hi n0 : Int) (ao : Option Addr) (m cap : Nat) (nm ot : ByteArray) (wt : Nat) (tof namef otherf wf : Bool) (w : World) : Calls Tryz.prog 37 #[.agg #[.int .i64 kd, .int .i64 lo, .int .i64 hi, .int .i64 n0, .slice ao m cap, .string nm, .string ot, .float .f64 wt], .bool false, .bool tof, .bool namef, .bool otherf, .bool wf] w (BoolB w (bareB n0 m nm ot wt false tof namef otherf wf)) := by
  have hb : ∀ o, Below w.heap.size w (w.alloc o) := fun o => (Below.refl _ _).alloc (Nat.le_refl _) o
  have HB := hide hb
  clear hb
  have HBT := hide (fun w => bits_any wt w)
  by_cases c0 : n0 = 0
  · subst c0
    cases tof with
    | true =>
      cases namef with
      | true =>
        cases otherf with
        | true =>
          cases wf with
          | true =>
            rw [show bareB 0 m nm ot wt false true true true true = true from by simp [bareB, *] <;> rfl]
            go_enter Tryz.func37, Tryz.ntmps37
            go_wp2
            go_ret
            exact ⟨rfl, (unhide HB) _⟩
          | false =>
            by_cases c4 : wt = 0
            · subst c4
              rw [show bareB 0 m nm ot 0 false true true true false = true from by simp [bareB, *] <;> rfl]
              go_enter Tryz.func37, Tryz.ntmps37
              go_wp2_with fail
              refine (unhide HBT _).mono ?_
              rintro e w1 ⟨rfl, rfl⟩
              go_wp2
              go_ret
              exact ⟨rfl, (unhide HB) _⟩
            · have q4 : ((wt : Int) == 0) = false := beq_eq_false_iff_ne.2 (by omega)
              rw [show bareB 0 m nm ot wt false true true true false = false from by simp [bareB, *] <;> rfl]
              go_enter Tryz.func37, Tryz.ntmps37
              go_wp2_with fail
              refine (unhide HBT _).mono ?_
              rintro e w1 ⟨rfl, rfl⟩
              go_wp2
              go_ret
              exact ⟨rfl, (unhide HB) _⟩
        | false =>
          by_cases c3 : ot.size = 0
          · obtain rfl := empty_of c3
            clear c3
            cases wf with
            | true =>
              rw [show bareB 0 m nm ⟨#[]⟩ wt false true true false true = true from by simp [bareB, *] <;> rfl]
              go_enter Tryz.func37, Tryz.ntmps37
              go_wp2
              go_ret
              exact ⟨rfl, (unhide HB) _⟩
            | false =>
              by_cases c4 : wt = 0
              · subst c4
                rw [show bareB 0 m nm ⟨#[]⟩ 0 false true true false false = true from by simp [bareB, *] <;> rfl]
                go_enter Tryz.func37, Tryz.ntmps37
                go_wp2_with fail
                refine (unhide HBT _).mono ?_
                rintro e w1 ⟨rfl, rfl⟩
                go_wp2
                go_ret
                exact ⟨rfl, (unhide HB) _⟩
              · have q4 : ((wt : Int) == 0) = false := beq_eq_false_iff_ne.2 (by omega)
                rw [show bareB 0 m nm ⟨#[]⟩ wt false true true false false = false from by simp [bareB, *] <;> rfl]
                go_enter Tryz.func37, Tryz.ntmps37
                go_wp2_with fail
                refine (unhide HBT _).mono ?_
                rintro e w1 ⟨rfl, rfl⟩
                go_wp2
                go_ret
                exact ⟨rfl, (unhide HB) _⟩
          · have q3 := list_ne c3
            rw [show bareB 0 m nm ot wt false true true false wf = false from by simp [bareB, *] <;> rfl]
            go_enter Tryz.func37, Tryz.ntmps37
            go_wp2
            go_ret
            exact ⟨rfl, (unhide HB) _⟩
      | false =>
        by_cases c2 : nm.size = 0
        · obtain rfl := empty_of c2
          clear c2
          cases otherf with
          | true =>
            cases wf with
            | true =>
              rw [show bareB 0 m ⟨#[]⟩ ot wt false true false true true = true from by simp [bareB, *] <;> rfl]
              go_enter Tryz.func37, Tryz.ntmps37
              go_wp2
              go_ret
              exact ⟨rfl, (unhide HB) _⟩
            | false =>
              by_cases c4 : wt = 0
              · subst c4
                rw [show bareB 0 m ⟨#[]⟩ ot 0 false true false true false = true from by simp [bareB, *] <;> rfl]
                go_enter Tryz.func37, Tryz.ntmps37
                go_wp2_with fail
                refine (unhide HBT _).mono ?_
                rintro e w1 ⟨rfl, rfl⟩
                go_wp2
                go_ret
                exact ⟨rfl, (unhide HB) _⟩
              · have q4 : ((wt : Int) == 0) = false := beq_eq_false_iff_ne.2 (by omega)
                rw [show bareB 0 m ⟨#[]⟩ ot wt false true false true false = false from by simp [bareB, *] <;> rfl]
                go_enter Tryz.func37, Tryz.ntmps37
                go_wp2_with fail
                refine (unhide HBT _).mono ?_
                rintro e w1 ⟨rfl, rfl⟩
                go_wp2
                go_ret
                exact ⟨rfl, (unhide HB) _⟩
          | false =>
            by_cases c3 : ot.size = 0
            · obtain rfl := empty_of c3
              clear c3
              cases wf with
              | true =>
                rw [show bareB 0 m ⟨#[]⟩ ⟨#[]⟩ wt false true false false true = true from by simp [bareB, *] <;> rfl]
                go_enter Tryz.func37, Tryz.ntmps37
                go_wp2
                go_ret
                exact ⟨rfl, (unhide HB) _⟩
              | false =>
                by_cases c4 : wt = 0
                · subst c4
                  rw [show bareB 0 m ⟨#[]⟩ ⟨#[]⟩ 0 false true false false false = true from by simp [bareB, *] <;> rfl]
                  go_enter Tryz.func37, Tryz.ntmps37
                  go_wp2_with fail
                  refine (unhide HBT _).mono ?_
                  rintro e w1 ⟨rfl, rfl⟩
                  go_wp2
                  go_ret
                  exact ⟨rfl, (unhide HB) _⟩
                · have q4 : ((wt : Int) == 0) = false := beq_eq_false_iff_ne.2 (by omega)
                  rw [show bareB 0 m ⟨#[]⟩ ⟨#[]⟩ wt false true false false false = false from by simp [bareB, *] <;> rfl]
                  go_enter Tryz.func37, Tryz.ntmps37
                  go_wp2_with fail
                  refine (unhide HBT _).mono ?_
                  rintro e w1 ⟨rfl, rfl⟩
                  go_wp2
                  go_ret
                  exact ⟨rfl, (unhide HB) _⟩
            · have q3 := list_ne c3
              rw [show bareB 0 m ⟨#[]⟩ ot wt false true false false wf = false from by simp [bareB, *] <;> rfl]
              go_enter Tryz.func37, Tryz.ntmps37
              go_wp2
              go_ret
              exact ⟨rfl, (unhide HB) _⟩
        · have q2 := list_ne c2
          rw [show bareB 0 m nm ot wt false true false otherf wf = false from by simp [bareB, *] <;> rfl]
          go_enter Tryz.func37, Tryz.ntmps37
          go_wp2
          go_ret
          exact ⟨rfl, (unhide HB) _⟩
    | false =>
      by_cases c1 : m = 0
      · subst c1
        cases namef with
        | true =>
          cases otherf with
          | true =>
            cases wf with
            | true =>
              rw [show bareB 0 0 nm ot wt false false true true true = true from by simp [bareB, *] <;> rfl]
              go_enter Tryz.func37, Tryz.ntmps37
              go_wp2
              go_ret
              exact ⟨rfl, (unhide HB) _⟩
            | false =>
              by_cases c4 : wt = 0
              · subst c4
                rw [show bareB 0 0 nm ot 0 false false true true false = true from by simp [bareB, *] <;> rfl]
                go_enter Tryz.func37, Tryz.ntmps37
                go_wp2_with fail
                refine (unhide HBT _).mono ?_
                rintro e w1 ⟨rfl, rfl⟩
                go_wp2
                go_ret
                exact ⟨rfl, (unhide HB) _⟩
              · have q4 : ((wt : Int) == 0) = false := beq_eq_false_iff_ne.2 (by omega)
                rw [show bareB 0 0 nm ot wt false false true true false = false from by simp [bareB, *] <;> rfl]
                go_enter Tryz.func37, Tryz.ntmps37
                go_wp2_with fail
                refine (unhide HBT _).mono ?_
                rintro e w1 ⟨rfl, rfl⟩
                go_wp2
                go_ret
                exact ⟨rfl, (unhide HB) _⟩
          | false =>
            by_cases c3 : ot.size = 0
            · obtain rfl := empty_of c3
              clear c3
              cases wf with
              | true =>
                rw [show bareB 0 0 nm ⟨#[]⟩ wt false false true false true = true from by simp [bareB, *] <;> rfl]
                go_enter Tryz.func37, Tryz.ntmps37
                go_wp2
                go_ret
                exact ⟨rfl, (unhide HB) _⟩
              | false =>
                by_cases c4 : wt = 0
                · subst c4
                  rw [show bareB 0 0 nm ⟨#[]⟩ 0 false false true false false = true from by simp [bareB, *] <;> rfl]
                  go_enter Tryz.func37, Tryz.ntmps37
                  go_wp2_with fail
                  refine (unhide HBT _).mono ?_
                  rintro e w1 ⟨rfl, rfl⟩
                  go_wp2
                  go_ret
                  exact ⟨rfl, (unhide HB) _⟩
                · have q4 : ((wt : Int) == 0) = false := beq_eq_false_iff_ne.2 (by omega)
                  rw [show bareB 0 0 nm ⟨#[]⟩ wt false false true false false = false from by simp [bareB, *] <;> rfl]
                  go_enter Tryz.func37, Tryz.ntmps37
                  go_wp2_with fail
                  refine (unhide HBT _).mono ?_
                  rintro e w1 ⟨rfl, rfl⟩
                  go_wp2
                  go_ret
                  exact ⟨rfl, (unhide HB) _⟩
            · have q3 := list_ne c3
              rw [show bareB 0 0 nm ot wt false false true false wf = false from by simp [bareB, *] <;> rfl]
              go_enter Tryz.func37, Tryz.ntmps37
              go_wp2
              go_ret
              exact ⟨rfl, (unhide HB) _⟩
        | false =>
          by_cases c2 : nm.size = 0
          · obtain rfl := empty_of c2
            clear c2
            cases otherf with
            | true =>
              cases wf with
              | true =>
                rw [show bareB 0 0 ⟨#[]⟩ ot wt false false false true true = true from by simp [bareB, *] <;> rfl]
                go_enter Tryz.func37, Tryz.ntmps37
                go_wp2
                go_ret
                exact ⟨rfl, (unhide HB) _⟩
              | false =>
                by_cases c4 : wt = 0
                · subst c4
                  rw [show bareB 0 0 ⟨#[]⟩ ot 0 false false false true false = true from by simp [bareB, *] <;> rfl]
                  go_enter Tryz.func37, Tryz.ntmps37
                  go_wp2_with fail
                  refine (unhide HBT _).mono ?_
                  rintro e w1 ⟨rfl, rfl⟩
                  go_wp2
                  go_ret
                  exact ⟨rfl, (unhide HB) _⟩
                · have q4 : ((wt : Int) == 0) = false := beq_eq_false_iff_ne.2 (by omega)
                  rw [show bareB 0 0 ⟨#[]⟩ ot wt false false false true false = false from by simp [bareB, *] <;> rfl]
                  go_enter Tryz.func37, Tryz.ntmps37
                  go_wp2_with fail
                  refine (unhide HBT _).mono ?_
                  rintro e w1 ⟨rfl, rfl⟩
                  go_wp2
                  go_ret
                  exact ⟨rfl, (unhide HB) _⟩
            | false =>
              by_cases c3 : ot.size = 0
              · obtain rfl := empty_of c3
                clear c3
                cases wf with
                | true =>
                  rw [show bareB 0 0 ⟨#[]⟩ ⟨#[]⟩ wt false false false false true = true from by simp [bareB, *] <;> rfl]
                  go_enter Tryz.func37, Tryz.ntmps37
                  go_wp2
                  go_ret
                  exact ⟨rfl, (unhide HB) _⟩
                | false =>
                  by_cases c4 : wt = 0
                  · subst c4
                    rw [show bareB 0 0 ⟨#[]⟩ ⟨#[]⟩ 0 false false false false false = true from by simp [bareB, *] <;> rfl]
                    go_enter Tryz.func37, Tryz.ntmps37
                    go_wp2_with fail
                    refine (unhide HBT _).mono ?_
                    rintro e w1 ⟨rfl, rfl⟩
                    go_wp2
                    go_ret
                    exact ⟨rfl, (unhide HB) _⟩
                  · have q4 : ((wt : Int) == 0) = false := beq_eq_false_iff_ne.2 (by omega)
                    rw [show bareB 0 0 ⟨#[]⟩ ⟨#[]⟩ wt false false false false false = false from by simp [bareB, *] <;> rfl]
                    go_enter Tryz.func37, Tryz.ntmps37
                    go_wp2_with fail
                    refine (unhide HBT _).mono ?_
                    rintro e w1 ⟨rfl, rfl⟩
                    go_wp2
                    go_ret
                    exact ⟨rfl, (unhide HB) _⟩
              · have q3 := list_ne c3
                rw [show bareB 0 0 ⟨#[]⟩ ot wt false false false false wf = false from by simp [bareB, *] <;> rfl]
                go_enter Tryz.func37, Tryz.ntmps37
                go_wp2
                go_ret
                exact ⟨rfl, (unhide HB) _⟩
          · have q2 := list_ne c2
            rw [show bareB 0 0 nm ot wt false false false otherf wf = false from by simp [bareB, *] <;> rfl]
            go_enter Tryz.func37, Tryz.ntmps37
            go_wp2
            go_ret
            exact ⟨rfl, (unhide HB) _⟩
      · have q1 : ((m : Int) == 0) = false := beq_eq_false_iff_ne.2 (by omega)
        rw [show bareB 0 m nm ot wt false false namef otherf wf = false from by simp [bareB, *] <;> rfl]
        go_enter Tryz.func37, Tryz.ntmps37
        go_wp2
        go_ret
        exact ⟨rfl, (unhide HB) _⟩
  · have q0 : (n0 == 0) = false := beq_eq_false_iff_ne.2 c0
    rw [show bareB n0 m nm ot wt false tof namef otherf wf = false from by simp [bareB, *] <;> rfl]
    go_enter Tryz.func37, Tryz.ntmps37
    go_wp2
    go_ret
    exact ⟨rfl, (unhide HB) _⟩
theorem refBare_any (r : Rec) (vt : Value) (nf tof namef otherf wf : Bool) (w : World) (hv : Sk .i32 w vt r.to) : Calls Tryz.prog 37 #[recV r vt, .bool nf, .bool tof, .bool namef, .bool otherf, .bool wf] w (BoolB w (Cn.bare r nf tof namef otherf wf)) := by
  obtain ⟨ao, cap, rfl, _, _⟩ := hv.shape
  cases nf with
  | true => exact bare_true _ _ _ _ _ _ _ _ _ _ _ _ _ _ _
  | false => exact bare_false _ _ _ _ _ _ _ _ _ _ _ _ _ _ _
end Go.Proofs.YtbbmaokeibafkaaGreatDoor
