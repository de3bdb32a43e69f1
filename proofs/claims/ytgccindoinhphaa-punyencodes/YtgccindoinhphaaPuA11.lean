/- The contracts of Adapt, the program's and the document's. -/
import Derived.Test.YtgccindoinhphaaPu11
import Derived.Test.YtgccindoinhphaaSeq
namespace Go.Proofs.Ytgccindoinhphaa
open Go.RowKit

def IntPost (w : World) (z : Int) (e : Ending) (w' : World) : Prop := e = .returned (.int .i64 z) ∧ w' = w
theorem IntPost.mk {w : World} {z u : Int} (h : u = z) : IntPost w z (.returned (.int .i64 u)) w := by subst h; exact ⟨rfl, rfl⟩

theorem tdiv_pos {a b : Int} (h : 0 ≤ a) : a.tdiv b = a / b := Int.tdiv_eq_ediv_of_nonneg h
theorem wrap64_in {x : Int} (h0 : -9223372036854775808 ≤ x) (h1 : x ≤ 9223372036854775807) : wrap64 x = x := by unfold wrap64; omega

set_option maxHeartbeats 2000000 in
theorem adapt_any (delta points : Int) (first : Bool) (w : World) (hd : -9223372036854775808 ≤ delta ∧ delta ≤ 9223372036854775807) (hp : -9223372036854775808 ≤ points ∧ points ≤ 9223372036854775807) :
    Calls Try.prog 16 #[.int .i64 delta, .int .i64 points, .bool first] w (IntPost w (Pu.adapt delta points first)) := by
  cases first with
  | true =>
    have HB := hide (Pu.ad0_bounds (delta := delta) (points := points) (first := true) hd.2)
    have HR : Hid (Pu.adapt delta points true = Pu.adA 12 (Pu.ad0 delta points true) 0) := rfl
    generalize Pu.adapt delta points true = r at *
    by_cases hd0 : delta < 0
    · by_cases hp0 : points < 1
      · have HA : Hid (Pu.ad0 delta points true = 0 / 700 + 0 / 700 / 1) := by show Pu.ad0 delta points true = _; unfold Pu.ad0; simp [hd0, hp0]
        go_enter Try.func16, Try.ntmps16
        go_wp2
        go_loop [0, 7] (fun d k => ∃ (f : Nat) (x y : Int), d = .int .i64 x ∧ k = .int .i64 y ∧ 0 ≤ x ∧ x ≤ 9223372036854775806 ∧ 0 ≤ y ∧ y + 36 * f ≤ 432 ∧ r = Pu.adA f x y ∧ x ≤ Pu.pow35 f) (fun d _ => (intOf d).toNat)
        case atStart =>
          refine ⟨12, Pu.ad0 delta points true, 0, ?_, rfl, (unhide HB).1, (unhide HB).2, by omega, by omega, unhide HR, by have := Pu.pow35_12; have := (unhide HB).2; omega⟩
          have hB := unhide HB
          rw [unhide HA] at hB ⊢
          first
            | rfl
            | (rw [Int.ediv_one])
            | (rw [wrap64_in (by omega) (by omega)])
            | simp
        case round =>
          obtain ⟨f, x, y, rfl, rfl, h1, h2, h3, h4, h5, h6⟩ := hrel
          have HE := hide h5
          by_cases hx : 455 < x
          · have hf : f ≠ 0 := by intro h; subst h; simp [Pu.pow35] at h6; omega
            obtain ⟨g, rfl⟩ : ∃ g, f = g + 1 := ⟨f - 1, by omega⟩
            have HN := hide (h5.trans (Pu.adA_big g x y hx))
            have HQ : Hid (x / 35 ≤ Pu.pow35 g) := by show x / 35 ≤ Pu.pow35 g; simp only [Pu.pow35] at h6; omega
            clear h5 h6 HE HR
            have ht : x.tdiv 35 = x / 35 := tdiv_pos h1
            go_wp2
            go_round
            case rel => exact ⟨g, x / 35, y + 36, by first | rfl | rw [ht] | (rw [tdiv_pos h1]), by first | rfl | go_num, by omega, by omega, by omega, by omega, unhide HN, unhide HQ⟩
            case measure => simp [intOf]; omega
          · have HN := hide (h5.trans (Pu.adA_end f x y hx))
            clear h5 h6 HE HR
            have ht : (36 * x).tdiv (x + 38) = 36 * x / (x + 38) := tdiv_pos (by omega)
            have hb := Pu.adE_bounds (k := y) h1 (by omega) h3
            unfold Pu.adE at hb
            go_wp2
            go_ret
            refine IntPost.mk ?_
            rw [unhide HN]
            unfold Pu.adE
            first
              | rfl
              | (rw [tdiv_pos (by omega), wrap64_in (by omega) (by omega)])
              | (rw [wrap64_in (by omega) (by omega)])
      · have HA : Hid (Pu.ad0 delta points true = 0 / 700 + 0 / 700 / points) := by show Pu.ad0 delta points true = _; unfold Pu.ad0; simp [hd0, if_neg hp0]
        go_enter Try.func16, Try.ntmps16
        go_wp2
        go_loop [0, 7] (fun d k => ∃ (f : Nat) (x y : Int), d = .int .i64 x ∧ k = .int .i64 y ∧ 0 ≤ x ∧ x ≤ 9223372036854775806 ∧ 0 ≤ y ∧ y + 36 * f ≤ 432 ∧ r = Pu.adA f x y ∧ x ≤ Pu.pow35 f) (fun d _ => (intOf d).toNat)
        case atStart =>
          refine ⟨12, Pu.ad0 delta points true, 0, ?_, rfl, (unhide HB).1, (unhide HB).2, by omega, by omega, unhide HR, by have := Pu.pow35_12; have := (unhide HB).2; omega⟩
          have hB := unhide HB
          rw [unhide HA] at hB ⊢
          first
            | rfl
            | (rw [Int.ediv_one])
            | (rw [wrap64_in (by omega) (by omega)])
            | simp
        case round =>
          obtain ⟨f, x, y, rfl, rfl, h1, h2, h3, h4, h5, h6⟩ := hrel
          have HE := hide h5
          by_cases hx : 455 < x
          · have hf : f ≠ 0 := by intro h; subst h; simp [Pu.pow35] at h6; omega
            obtain ⟨g, rfl⟩ : ∃ g, f = g + 1 := ⟨f - 1, by omega⟩
            have HN := hide (h5.trans (Pu.adA_big g x y hx))
            have HQ : Hid (x / 35 ≤ Pu.pow35 g) := by show x / 35 ≤ Pu.pow35 g; simp only [Pu.pow35] at h6; omega
            clear h5 h6 HE HR
            have ht : x.tdiv 35 = x / 35 := tdiv_pos h1
            go_wp2
            go_round
            case rel => exact ⟨g, x / 35, y + 36, by first | rfl | rw [ht] | (rw [tdiv_pos h1]), by first | rfl | go_num, by omega, by omega, by omega, by omega, unhide HN, unhide HQ⟩
            case measure => simp [intOf]; omega
          · have HN := hide (h5.trans (Pu.adA_end f x y hx))
            clear h5 h6 HE HR
            have ht : (36 * x).tdiv (x + 38) = 36 * x / (x + 38) := tdiv_pos (by omega)
            have hb := Pu.adE_bounds (k := y) h1 (by omega) h3
            unfold Pu.adE at hb
            go_wp2
            go_ret
            refine IntPost.mk ?_
            rw [unhide HN]
            unfold Pu.adE
            first
              | rfl
              | (rw [tdiv_pos (by omega), wrap64_in (by omega) (by omega)])
              | (rw [wrap64_in (by omega) (by omega)])
    · by_cases hp0 : points < 1
      · have HA : Hid (Pu.ad0 delta points true = delta / 700 + delta / 700 / 1) := by show Pu.ad0 delta points true = _; unfold Pu.ad0; simp [if_neg hd0, hp0]
        go_enter Try.func16, Try.ntmps16
        go_wp2
        go_loop [0, 7] (fun d k => ∃ (f : Nat) (x y : Int), d = .int .i64 x ∧ k = .int .i64 y ∧ 0 ≤ x ∧ x ≤ 9223372036854775806 ∧ 0 ≤ y ∧ y + 36 * f ≤ 432 ∧ r = Pu.adA f x y ∧ x ≤ Pu.pow35 f) (fun d _ => (intOf d).toNat)
        case atStart =>
          refine ⟨12, Pu.ad0 delta points true, 0, ?_, rfl, (unhide HB).1, (unhide HB).2, by omega, by omega, unhide HR, by have := Pu.pow35_12; have := (unhide HB).2; omega⟩
          have hB := unhide HB
          rw [unhide HA] at hB ⊢
          first
            | rfl
            | (rw [Int.ediv_one])
            | (rw [wrap64_in (by omega) (by omega)])
            | simp
        case round =>
          obtain ⟨f, x, y, rfl, rfl, h1, h2, h3, h4, h5, h6⟩ := hrel
          have HE := hide h5
          by_cases hx : 455 < x
          · have hf : f ≠ 0 := by intro h; subst h; simp [Pu.pow35] at h6; omega
            obtain ⟨g, rfl⟩ : ∃ g, f = g + 1 := ⟨f - 1, by omega⟩
            have HN := hide (h5.trans (Pu.adA_big g x y hx))
            have HQ : Hid (x / 35 ≤ Pu.pow35 g) := by show x / 35 ≤ Pu.pow35 g; simp only [Pu.pow35] at h6; omega
            clear h5 h6 HE HR
            have ht : x.tdiv 35 = x / 35 := tdiv_pos h1
            go_wp2
            go_round
            case rel => exact ⟨g, x / 35, y + 36, by first | rfl | rw [ht] | (rw [tdiv_pos h1]), by first | rfl | go_num, by omega, by omega, by omega, by omega, unhide HN, unhide HQ⟩
            case measure => simp [intOf]; omega
          · have HN := hide (h5.trans (Pu.adA_end f x y hx))
            clear h5 h6 HE HR
            have ht : (36 * x).tdiv (x + 38) = 36 * x / (x + 38) := tdiv_pos (by omega)
            have hb := Pu.adE_bounds (k := y) h1 (by omega) h3
            unfold Pu.adE at hb
            go_wp2
            go_ret
            refine IntPost.mk ?_
            rw [unhide HN]
            unfold Pu.adE
            first
              | rfl
              | (rw [tdiv_pos (by omega), wrap64_in (by omega) (by omega)])
              | (rw [wrap64_in (by omega) (by omega)])
      · have HA : Hid (Pu.ad0 delta points true = delta / 700 + delta / 700 / points) := by show Pu.ad0 delta points true = _; unfold Pu.ad0; simp [if_neg hd0, if_neg hp0]
        go_enter Try.func16, Try.ntmps16
        go_wp2
        go_loop [0, 7] (fun d k => ∃ (f : Nat) (x y : Int), d = .int .i64 x ∧ k = .int .i64 y ∧ 0 ≤ x ∧ x ≤ 9223372036854775806 ∧ 0 ≤ y ∧ y + 36 * f ≤ 432 ∧ r = Pu.adA f x y ∧ x ≤ Pu.pow35 f) (fun d _ => (intOf d).toNat)
        case atStart =>
          refine ⟨12, Pu.ad0 delta points true, 0, ?_, rfl, (unhide HB).1, (unhide HB).2, by omega, by omega, unhide HR, by have := Pu.pow35_12; have := (unhide HB).2; omega⟩
          have hB := unhide HB
          rw [unhide HA] at hB ⊢
          first
            | rfl
            | (rw [Int.ediv_one])
            | (rw [wrap64_in (by omega) (by omega)])
            | simp
        case round =>
          obtain ⟨f, x, y, rfl, rfl, h1, h2, h3, h4, h5, h6⟩ := hrel
          have HE := hide h5
          by_cases hx : 455 < x
          · have hf : f ≠ 0 := by intro h; subst h; simp [Pu.pow35] at h6; omega
            obtain ⟨g, rfl⟩ : ∃ g, f = g + 1 := ⟨f - 1, by omega⟩
            have HN := hide (h5.trans (Pu.adA_big g x y hx))
            have HQ : Hid (x / 35 ≤ Pu.pow35 g) := by show x / 35 ≤ Pu.pow35 g; simp only [Pu.pow35] at h6; omega
            clear h5 h6 HE HR
            have ht : x.tdiv 35 = x / 35 := tdiv_pos h1
            go_wp2
            go_round
            case rel => exact ⟨g, x / 35, y + 36, by first | rfl | rw [ht] | (rw [tdiv_pos h1]), by first | rfl | go_num, by omega, by omega, by omega, by omega, unhide HN, unhide HQ⟩
            case measure => simp [intOf]; omega
          · have HN := hide (h5.trans (Pu.adA_end f x y hx))
            clear h5 h6 HE HR
            have ht : (36 * x).tdiv (x + 38) = 36 * x / (x + 38) := tdiv_pos (by omega)
            have hb := Pu.adE_bounds (k := y) h1 (by omega) h3
            unfold Pu.adE at hb
            go_wp2
            go_ret
            refine IntPost.mk ?_
            rw [unhide HN]
            unfold Pu.adE
            first
              | rfl
              | (rw [tdiv_pos (by omega), wrap64_in (by omega) (by omega)])
              | (rw [wrap64_in (by omega) (by omega)])
  | false =>
    have HB := hide (Pu.ad0_bounds (delta := delta) (points := points) (first := false) hd.2)
    have HR : Hid (Pu.adapt delta points false = Pu.adA 12 (Pu.ad0 delta points false) 0) := rfl
    generalize Pu.adapt delta points false = r at *
    by_cases hd0 : delta < 0
    · by_cases hp0 : points < 1
      · have HA : Hid (Pu.ad0 delta points false = 0 / 2 + 0 / 2 / 1) := by show Pu.ad0 delta points false = _; unfold Pu.ad0; simp [hd0, hp0]
        go_enter Try.func16, Try.ntmps16
        go_wp2
        go_loop [0, 7] (fun d k => ∃ (f : Nat) (x y : Int), d = .int .i64 x ∧ k = .int .i64 y ∧ 0 ≤ x ∧ x ≤ 9223372036854775806 ∧ 0 ≤ y ∧ y + 36 * f ≤ 432 ∧ r = Pu.adA f x y ∧ x ≤ Pu.pow35 f) (fun d _ => (intOf d).toNat)
        case atStart =>
          refine ⟨12, Pu.ad0 delta points false, 0, ?_, rfl, (unhide HB).1, (unhide HB).2, by omega, by omega, unhide HR, by have := Pu.pow35_12; have := (unhide HB).2; omega⟩
          have hB := unhide HB
          rw [unhide HA] at hB ⊢
          first
            | rfl
            | (rw [Int.ediv_one])
            | (rw [wrap64_in (by omega) (by omega)])
            | simp
        case round =>
          obtain ⟨f, x, y, rfl, rfl, h1, h2, h3, h4, h5, h6⟩ := hrel
          have HE := hide h5
          by_cases hx : 455 < x
          · have hf : f ≠ 0 := by intro h; subst h; simp [Pu.pow35] at h6; omega
            obtain ⟨g, rfl⟩ : ∃ g, f = g + 1 := ⟨f - 1, by omega⟩
            have HN := hide (h5.trans (Pu.adA_big g x y hx))
            have HQ : Hid (x / 35 ≤ Pu.pow35 g) := by show x / 35 ≤ Pu.pow35 g; simp only [Pu.pow35] at h6; omega
            clear h5 h6 HE HR
            have ht : x.tdiv 35 = x / 35 := tdiv_pos h1
            go_wp2
            go_round
            case rel => exact ⟨g, x / 35, y + 36, by first | rfl | rw [ht] | (rw [tdiv_pos h1]), by first | rfl | go_num, by omega, by omega, by omega, by omega, unhide HN, unhide HQ⟩
            case measure => simp [intOf]; omega
          · have HN := hide (h5.trans (Pu.adA_end f x y hx))
            clear h5 h6 HE HR
            have ht : (36 * x).tdiv (x + 38) = 36 * x / (x + 38) := tdiv_pos (by omega)
            have hb := Pu.adE_bounds (k := y) h1 (by omega) h3
            unfold Pu.adE at hb
            go_wp2
            go_ret
            refine IntPost.mk ?_
            rw [unhide HN]
            unfold Pu.adE
            first
              | rfl
              | (rw [tdiv_pos (by omega), wrap64_in (by omega) (by omega)])
              | (rw [wrap64_in (by omega) (by omega)])
      · have HA : Hid (Pu.ad0 delta points false = 0 / 2 + 0 / 2 / points) := by show Pu.ad0 delta points false = _; unfold Pu.ad0; simp [hd0, if_neg hp0]
        go_enter Try.func16, Try.ntmps16
        go_wp2
        go_loop [0, 7] (fun d k => ∃ (f : Nat) (x y : Int), d = .int .i64 x ∧ k = .int .i64 y ∧ 0 ≤ x ∧ x ≤ 9223372036854775806 ∧ 0 ≤ y ∧ y + 36 * f ≤ 432 ∧ r = Pu.adA f x y ∧ x ≤ Pu.pow35 f) (fun d _ => (intOf d).toNat)
        case atStart =>
          refine ⟨12, Pu.ad0 delta points false, 0, ?_, rfl, (unhide HB).1, (unhide HB).2, by omega, by omega, unhide HR, by have := Pu.pow35_12; have := (unhide HB).2; omega⟩
          have hB := unhide HB
          rw [unhide HA] at hB ⊢
          first
            | rfl
            | (rw [Int.ediv_one])
            | (rw [wrap64_in (by omega) (by omega)])
            | simp
        case round =>
          obtain ⟨f, x, y, rfl, rfl, h1, h2, h3, h4, h5, h6⟩ := hrel
          have HE := hide h5
          by_cases hx : 455 < x
          · have hf : f ≠ 0 := by intro h; subst h; simp [Pu.pow35] at h6; omega
            obtain ⟨g, rfl⟩ : ∃ g, f = g + 1 := ⟨f - 1, by omega⟩
            have HN := hide (h5.trans (Pu.adA_big g x y hx))
            have HQ : Hid (x / 35 ≤ Pu.pow35 g) := by show x / 35 ≤ Pu.pow35 g; simp only [Pu.pow35] at h6; omega
            clear h5 h6 HE HR
            have ht : x.tdiv 35 = x / 35 := tdiv_pos h1
            go_wp2
            go_round
            case rel => exact ⟨g, x / 35, y + 36, by first | rfl | rw [ht] | (rw [tdiv_pos h1]), by first | rfl | go_num, by omega, by omega, by omega, by omega, unhide HN, unhide HQ⟩
            case measure => simp [intOf]; omega
          · have HN := hide (h5.trans (Pu.adA_end f x y hx))
            clear h5 h6 HE HR
            have ht : (36 * x).tdiv (x + 38) = 36 * x / (x + 38) := tdiv_pos (by omega)
            have hb := Pu.adE_bounds (k := y) h1 (by omega) h3
            unfold Pu.adE at hb
            go_wp2
            go_ret
            refine IntPost.mk ?_
            rw [unhide HN]
            unfold Pu.adE
            first
              | rfl
              | (rw [tdiv_pos (by omega), wrap64_in (by omega) (by omega)])
              | (rw [wrap64_in (by omega) (by omega)])
    · by_cases hp0 : points < 1
      · have HA : Hid (Pu.ad0 delta points false = delta / 2 + delta / 2 / 1) := by show Pu.ad0 delta points false = _; unfold Pu.ad0; simp [if_neg hd0, hp0]
        go_enter Try.func16, Try.ntmps16
        go_wp2
        go_loop [0, 7] (fun d k => ∃ (f : Nat) (x y : Int), d = .int .i64 x ∧ k = .int .i64 y ∧ 0 ≤ x ∧ x ≤ 9223372036854775806 ∧ 0 ≤ y ∧ y + 36 * f ≤ 432 ∧ r = Pu.adA f x y ∧ x ≤ Pu.pow35 f) (fun d _ => (intOf d).toNat)
        case atStart =>
          refine ⟨12, Pu.ad0 delta points false, 0, ?_, rfl, (unhide HB).1, (unhide HB).2, by omega, by omega, unhide HR, by have := Pu.pow35_12; have := (unhide HB).2; omega⟩
          have hB := unhide HB
          rw [unhide HA] at hB ⊢
          first
            | rfl
            | (rw [Int.ediv_one])
            | (rw [wrap64_in (by omega) (by omega)])
            | simp
        case round =>
          obtain ⟨f, x, y, rfl, rfl, h1, h2, h3, h4, h5, h6⟩ := hrel
          have HE := hide h5
          by_cases hx : 455 < x
          · have hf : f ≠ 0 := by intro h; subst h; simp [Pu.pow35] at h6; omega
            obtain ⟨g, rfl⟩ : ∃ g, f = g + 1 := ⟨f - 1, by omega⟩
            have HN := hide (h5.trans (Pu.adA_big g x y hx))
            have HQ : Hid (x / 35 ≤ Pu.pow35 g) := by show x / 35 ≤ Pu.pow35 g; simp only [Pu.pow35] at h6; omega
            clear h5 h6 HE HR
            have ht : x.tdiv 35 = x / 35 := tdiv_pos h1
            go_wp2
            go_round
            case rel => exact ⟨g, x / 35, y + 36, by first | rfl | rw [ht] | (rw [tdiv_pos h1]), by first | rfl | go_num, by omega, by omega, by omega, by omega, unhide HN, unhide HQ⟩
            case measure => simp [intOf]; omega
          · have HN := hide (h5.trans (Pu.adA_end f x y hx))
            clear h5 h6 HE HR
            have ht : (36 * x).tdiv (x + 38) = 36 * x / (x + 38) := tdiv_pos (by omega)
            have hb := Pu.adE_bounds (k := y) h1 (by omega) h3
            unfold Pu.adE at hb
            go_wp2
            go_ret
            refine IntPost.mk ?_
            rw [unhide HN]
            unfold Pu.adE
            first
              | rfl
              | (rw [tdiv_pos (by omega), wrap64_in (by omega) (by omega)])
              | (rw [wrap64_in (by omega) (by omega)])
      · have HA : Hid (Pu.ad0 delta points false = delta / 2 + delta / 2 / points) := by show Pu.ad0 delta points false = _; unfold Pu.ad0; simp [if_neg hd0, if_neg hp0]
        go_enter Try.func16, Try.ntmps16
        go_wp2
        go_loop [0, 7] (fun d k => ∃ (f : Nat) (x y : Int), d = .int .i64 x ∧ k = .int .i64 y ∧ 0 ≤ x ∧ x ≤ 9223372036854775806 ∧ 0 ≤ y ∧ y + 36 * f ≤ 432 ∧ r = Pu.adA f x y ∧ x ≤ Pu.pow35 f) (fun d _ => (intOf d).toNat)
        case atStart =>
          refine ⟨12, Pu.ad0 delta points false, 0, ?_, rfl, (unhide HB).1, (unhide HB).2, by omega, by omega, unhide HR, by have := Pu.pow35_12; have := (unhide HB).2; omega⟩
          have hB := unhide HB
          rw [unhide HA] at hB ⊢
          first
            | rfl
            | (rw [Int.ediv_one])
            | (rw [wrap64_in (by omega) (by omega)])
            | simp
        case round =>
          obtain ⟨f, x, y, rfl, rfl, h1, h2, h3, h4, h5, h6⟩ := hrel
          have HE := hide h5
          by_cases hx : 455 < x
          · have hf : f ≠ 0 := by intro h; subst h; simp [Pu.pow35] at h6; omega
            obtain ⟨g, rfl⟩ : ∃ g, f = g + 1 := ⟨f - 1, by omega⟩
            have HN := hide (h5.trans (Pu.adA_big g x y hx))
            have HQ : Hid (x / 35 ≤ Pu.pow35 g) := by show x / 35 ≤ Pu.pow35 g; simp only [Pu.pow35] at h6; omega
            clear h5 h6 HE HR
            have ht : x.tdiv 35 = x / 35 := tdiv_pos h1
            go_wp2
            go_round
            case rel => exact ⟨g, x / 35, y + 36, by first | rfl | rw [ht] | (rw [tdiv_pos h1]), by first | rfl | go_num, by omega, by omega, by omega, by omega, unhide HN, unhide HQ⟩
            case measure => simp [intOf]; omega
          · have HN := hide (h5.trans (Pu.adA_end f x y hx))
            clear h5 h6 HE HR
            have ht : (36 * x).tdiv (x + 38) = 36 * x / (x + 38) := tdiv_pos (by omega)
            have hb := Pu.adE_bounds (k := y) h1 (by omega) h3
            unfold Pu.adE at hb
            go_wp2
            go_ret
            refine IntPost.mk ?_
            rw [unhide HN]
            unfold Pu.adE
            first
              | rfl
              | (rw [tdiv_pos (by omega), wrap64_in (by omega) (by omega)])
              | (rw [wrap64_in (by omega) (by omega)])

set_option maxHeartbeats 2000000 in
theorem refAdapt_any (delta points : Int) (first : Bool) (w : World) (hd : -9223372036854775808 ≤ delta ∧ delta ≤ 9223372036854775807) (hp : -9223372036854775808 ≤ points ∧ points ≤ 9223372036854775807) :
    Calls Try.prog 17 #[.int .i64 delta, .int .i64 points, .bool first] w (IntPost w (Pu.adapt delta points first)) := by
  cases first with
  | true =>
    have HB := hide (Pu.ad0_bounds (delta := delta) (points := points) (first := true) hd.2)
    have HR : Hid (Pu.adapt delta points true = Pu.adA 12 (Pu.ad0 delta points true) 0) := rfl
    generalize Pu.adapt delta points true = r at *
    by_cases hd0 : delta < 0
    · by_cases hp0 : points < 1
      · have HA : Hid (Pu.ad0 delta points true = 0 / 700 + 0 / 700 / 1) := by show Pu.ad0 delta points true = _; unfold Pu.ad0; simp [hd0, hp0]
        go_enter Try.func17, Try.ntmps17
        go_wp2
        go_loop [0, 7] (fun d k => ∃ (f : Nat) (x y : Int), d = .int .i64 x ∧ k = .int .i64 y ∧ 0 ≤ x ∧ x ≤ 9223372036854775806 ∧ 0 ≤ y ∧ y + 36 * f ≤ 432 ∧ r = Pu.adA f x y ∧ x ≤ Pu.pow35 f) (fun d _ => (intOf d).toNat)
        case atStart =>
          refine ⟨12, Pu.ad0 delta points true, 0, ?_, rfl, (unhide HB).1, (unhide HB).2, by omega, by omega, unhide HR, by have := Pu.pow35_12; have := (unhide HB).2; omega⟩
          have hB := unhide HB
          rw [unhide HA] at hB ⊢
          first
            | rfl
            | (rw [Int.ediv_one])
            | (rw [wrap64_in (by omega) (by omega)])
            | simp
        case round =>
          obtain ⟨f, x, y, rfl, rfl, h1, h2, h3, h4, h5, h6⟩ := hrel
          have HE := hide h5
          by_cases hx : 455 < x
          · have hf : f ≠ 0 := by intro h; subst h; simp [Pu.pow35] at h6; omega
            obtain ⟨g, rfl⟩ : ∃ g, f = g + 1 := ⟨f - 1, by omega⟩
            have HN := hide (h5.trans (Pu.adA_big g x y hx))
            have HQ : Hid (x / 35 ≤ Pu.pow35 g) := by show x / 35 ≤ Pu.pow35 g; simp only [Pu.pow35] at h6; omega
            clear h5 h6 HE HR
            have ht : x.tdiv 35 = x / 35 := tdiv_pos h1
            go_wp2
            go_round
            case rel => exact ⟨g, x / 35, y + 36, by first | rfl | rw [ht] | (rw [tdiv_pos h1]), by first | rfl | go_num, by omega, by omega, by omega, by omega, unhide HN, unhide HQ⟩
            case measure => simp [intOf]; omega
          · have HN := hide (h5.trans (Pu.adA_end f x y hx))
            clear h5 h6 HE HR
            have ht : (36 * x).tdiv (x + 38) = 36 * x / (x + 38) := tdiv_pos (by omega)
            have hb := Pu.adE_bounds (k := y) h1 (by omega) h3
            unfold Pu.adE at hb
            go_wp2
            go_ret
            refine IntPost.mk ?_
            rw [unhide HN]
            unfold Pu.adE
            first
              | rfl
              | (rw [tdiv_pos (by omega), wrap64_in (by omega) (by omega)])
              | (rw [wrap64_in (by omega) (by omega)])
      · have HA : Hid (Pu.ad0 delta points true = 0 / 700 + 0 / 700 / points) := by show Pu.ad0 delta points true = _; unfold Pu.ad0; simp [hd0, if_neg hp0]
        go_enter Try.func17, Try.ntmps17
        go_wp2
        go_loop [0, 7] (fun d k => ∃ (f : Nat) (x y : Int), d = .int .i64 x ∧ k = .int .i64 y ∧ 0 ≤ x ∧ x ≤ 9223372036854775806 ∧ 0 ≤ y ∧ y + 36 * f ≤ 432 ∧ r = Pu.adA f x y ∧ x ≤ Pu.pow35 f) (fun d _ => (intOf d).toNat)
        case atStart =>
          refine ⟨12, Pu.ad0 delta points true, 0, ?_, rfl, (unhide HB).1, (unhide HB).2, by omega, by omega, unhide HR, by have := Pu.pow35_12; have := (unhide HB).2; omega⟩
          have hB := unhide HB
          rw [unhide HA] at hB ⊢
          first
            | rfl
            | (rw [Int.ediv_one])
            | (rw [wrap64_in (by omega) (by omega)])
            | simp
        case round =>
          obtain ⟨f, x, y, rfl, rfl, h1, h2, h3, h4, h5, h6⟩ := hrel
          have HE := hide h5
          by_cases hx : 455 < x
          · have hf : f ≠ 0 := by intro h; subst h; simp [Pu.pow35] at h6; omega
            obtain ⟨g, rfl⟩ : ∃ g, f = g + 1 := ⟨f - 1, by omega⟩
            have HN := hide (h5.trans (Pu.adA_big g x y hx))
            have HQ : Hid (x / 35 ≤ Pu.pow35 g) := by show x / 35 ≤ Pu.pow35 g; simp only [Pu.pow35] at h6; omega
            clear h5 h6 HE HR
            have ht : x.tdiv 35 = x / 35 := tdiv_pos h1
            go_wp2
            go_round
            case rel => exact ⟨g, x / 35, y + 36, by first | rfl | rw [ht] | (rw [tdiv_pos h1]), by first | rfl | go_num, by omega, by omega, by omega, by omega, unhide HN, unhide HQ⟩
            case measure => simp [intOf]; omega
          · have HN := hide (h5.trans (Pu.adA_end f x y hx))
            clear h5 h6 HE HR
            have ht : (36 * x).tdiv (x + 38) = 36 * x / (x + 38) := tdiv_pos (by omega)
            have hb := Pu.adE_bounds (k := y) h1 (by omega) h3
            unfold Pu.adE at hb
            go_wp2
            go_ret
            refine IntPost.mk ?_
            rw [unhide HN]
            unfold Pu.adE
            first
              | rfl
              | (rw [tdiv_pos (by omega), wrap64_in (by omega) (by omega)])
              | (rw [wrap64_in (by omega) (by omega)])
    · by_cases hp0 : points < 1
      · have HA : Hid (Pu.ad0 delta points true = delta / 700 + delta / 700 / 1) := by show Pu.ad0 delta points true = _; unfold Pu.ad0; simp [if_neg hd0, hp0]
        go_enter Try.func17, Try.ntmps17
        go_wp2
        go_loop [0, 7] (fun d k => ∃ (f : Nat) (x y : Int), d = .int .i64 x ∧ k = .int .i64 y ∧ 0 ≤ x ∧ x ≤ 9223372036854775806 ∧ 0 ≤ y ∧ y + 36 * f ≤ 432 ∧ r = Pu.adA f x y ∧ x ≤ Pu.pow35 f) (fun d _ => (intOf d).toNat)
        case atStart =>
          refine ⟨12, Pu.ad0 delta points true, 0, ?_, rfl, (unhide HB).1, (unhide HB).2, by omega, by omega, unhide HR, by have := Pu.pow35_12; have := (unhide HB).2; omega⟩
          have hB := unhide HB
          rw [unhide HA] at hB ⊢
          first
            | rfl
            | (rw [Int.ediv_one])
            | (rw [wrap64_in (by omega) (by omega)])
            | simp
        case round =>
          obtain ⟨f, x, y, rfl, rfl, h1, h2, h3, h4, h5, h6⟩ := hrel
          have HE := hide h5
          by_cases hx : 455 < x
          · have hf : f ≠ 0 := by intro h; subst h; simp [Pu.pow35] at h6; omega
            obtain ⟨g, rfl⟩ : ∃ g, f = g + 1 := ⟨f - 1, by omega⟩
            have HN := hide (h5.trans (Pu.adA_big g x y hx))
            have HQ : Hid (x / 35 ≤ Pu.pow35 g) := by show x / 35 ≤ Pu.pow35 g; simp only [Pu.pow35] at h6; omega
            clear h5 h6 HE HR
            have ht : x.tdiv 35 = x / 35 := tdiv_pos h1
            go_wp2
            go_round
            case rel => exact ⟨g, x / 35, y + 36, by first | rfl | rw [ht] | (rw [tdiv_pos h1]), by first | rfl | go_num, by omega, by omega, by omega, by omega, unhide HN, unhide HQ⟩
            case measure => simp [intOf]; omega
          · have HN := hide (h5.trans (Pu.adA_end f x y hx))
            clear h5 h6 HE HR
            have ht : (36 * x).tdiv (x + 38) = 36 * x / (x + 38) := tdiv_pos (by omega)
            have hb := Pu.adE_bounds (k := y) h1 (by omega) h3
            unfold Pu.adE at hb
            go_wp2
            go_ret
            refine IntPost.mk ?_
            rw [unhide HN]
            unfold Pu.adE
            first
              | rfl
              | (rw [tdiv_pos (by omega), wrap64_in (by omega) (by omega)])
              | (rw [wrap64_in (by omega) (by omega)])
      · have HA : Hid (Pu.ad0 delta points true = delta / 700 + delta / 700 / points) := by show Pu.ad0 delta points true = _; unfold Pu.ad0; simp [if_neg hd0, if_neg hp0]
        go_enter Try.func17, Try.ntmps17
        go_wp2
        go_loop [0, 7] (fun d k => ∃ (f : Nat) (x y : Int), d = .int .i64 x ∧ k = .int .i64 y ∧ 0 ≤ x ∧ x ≤ 9223372036854775806 ∧ 0 ≤ y ∧ y + 36 * f ≤ 432 ∧ r = Pu.adA f x y ∧ x ≤ Pu.pow35 f) (fun d _ => (intOf d).toNat)
        case atStart =>
          refine ⟨12, Pu.ad0 delta points true, 0, ?_, rfl, (unhide HB).1, (unhide HB).2, by omega, by omega, unhide HR, by have := Pu.pow35_12; have := (unhide HB).2; omega⟩
          have hB := unhide HB
          rw [unhide HA] at hB ⊢
          first
            | rfl
            | (rw [Int.ediv_one])
            | (rw [wrap64_in (by omega) (by omega)])
            | simp
        case round =>
          obtain ⟨f, x, y, rfl, rfl, h1, h2, h3, h4, h5, h6⟩ := hrel
          have HE := hide h5
          by_cases hx : 455 < x
          · have hf : f ≠ 0 := by intro h; subst h; simp [Pu.pow35] at h6; omega
            obtain ⟨g, rfl⟩ : ∃ g, f = g + 1 := ⟨f - 1, by omega⟩
            have HN := hide (h5.trans (Pu.adA_big g x y hx))
            have HQ : Hid (x / 35 ≤ Pu.pow35 g) := by show x / 35 ≤ Pu.pow35 g; simp only [Pu.pow35] at h6; omega
            clear h5 h6 HE HR
            have ht : x.tdiv 35 = x / 35 := tdiv_pos h1
            go_wp2
            go_round
            case rel => exact ⟨g, x / 35, y + 36, by first | rfl | rw [ht] | (rw [tdiv_pos h1]), by first | rfl | go_num, by omega, by omega, by omega, by omega, unhide HN, unhide HQ⟩
            case measure => simp [intOf]; omega
          · have HN := hide (h5.trans (Pu.adA_end f x y hx))
            clear h5 h6 HE HR
            have ht : (36 * x).tdiv (x + 38) = 36 * x / (x + 38) := tdiv_pos (by omega)
            have hb := Pu.adE_bounds (k := y) h1 (by omega) h3
            unfold Pu.adE at hb
            go_wp2
            go_ret
            refine IntPost.mk ?_
            rw [unhide HN]
            unfold Pu.adE
            first
              | rfl
              | (rw [tdiv_pos (by omega), wrap64_in (by omega) (by omega)])
              | (rw [wrap64_in (by omega) (by omega)])
  | false =>
    have HB := hide (Pu.ad0_bounds (delta := delta) (points := points) (first := false) hd.2)
    have HR : Hid (Pu.adapt delta points false = Pu.adA 12 (Pu.ad0 delta points false) 0) := rfl
    generalize Pu.adapt delta points false = r at *
    by_cases hd0 : delta < 0
    · by_cases hp0 : points < 1
      · have HA : Hid (Pu.ad0 delta points false = 0 / 2 + 0 / 2 / 1) := by show Pu.ad0 delta points false = _; unfold Pu.ad0; simp [hd0, hp0]
        go_enter Try.func17, Try.ntmps17
        go_wp2
        go_loop [0, 7] (fun d k => ∃ (f : Nat) (x y : Int), d = .int .i64 x ∧ k = .int .i64 y ∧ 0 ≤ x ∧ x ≤ 9223372036854775806 ∧ 0 ≤ y ∧ y + 36 * f ≤ 432 ∧ r = Pu.adA f x y ∧ x ≤ Pu.pow35 f) (fun d _ => (intOf d).toNat)
        case atStart =>
          refine ⟨12, Pu.ad0 delta points false, 0, ?_, rfl, (unhide HB).1, (unhide HB).2, by omega, by omega, unhide HR, by have := Pu.pow35_12; have := (unhide HB).2; omega⟩
          have hB := unhide HB
          rw [unhide HA] at hB ⊢
          first
            | rfl
            | (rw [Int.ediv_one])
            | (rw [wrap64_in (by omega) (by omega)])
            | simp
        case round =>
          obtain ⟨f, x, y, rfl, rfl, h1, h2, h3, h4, h5, h6⟩ := hrel
          have HE := hide h5
          by_cases hx : 455 < x
          · have hf : f ≠ 0 := by intro h; subst h; simp [Pu.pow35] at h6; omega
            obtain ⟨g, rfl⟩ : ∃ g, f = g + 1 := ⟨f - 1, by omega⟩
            have HN := hide (h5.trans (Pu.adA_big g x y hx))
            have HQ : Hid (x / 35 ≤ Pu.pow35 g) := by show x / 35 ≤ Pu.pow35 g; simp only [Pu.pow35] at h6; omega
            clear h5 h6 HE HR
            have ht : x.tdiv 35 = x / 35 := tdiv_pos h1
            go_wp2
            go_round
            case rel => exact ⟨g, x / 35, y + 36, by first | rfl | rw [ht] | (rw [tdiv_pos h1]), by first | rfl | go_num, by omega, by omega, by omega, by omega, unhide HN, unhide HQ⟩
            case measure => simp [intOf]; omega
          · have HN := hide (h5.trans (Pu.adA_end f x y hx))
            clear h5 h6 HE HR
            have ht : (36 * x).tdiv (x + 38) = 36 * x / (x + 38) := tdiv_pos (by omega)
            have hb := Pu.adE_bounds (k := y) h1 (by omega) h3
            unfold Pu.adE at hb
            go_wp2
            go_ret
            refine IntPost.mk ?_
            rw [unhide HN]
            unfold Pu.adE
            first
              | rfl
              | (rw [tdiv_pos (by omega), wrap64_in (by omega) (by omega)])
              | (rw [wrap64_in (by omega) (by omega)])
      · have HA : Hid (Pu.ad0 delta points false = 0 / 2 + 0 / 2 / points) := by show Pu.ad0 delta points false = _; unfold Pu.ad0; simp [hd0, if_neg hp0]
        go_enter Try.func17, Try.ntmps17
        go_wp2
        go_loop [0, 7] (fun d k => ∃ (f : Nat) (x y : Int), d = .int .i64 x ∧ k = .int .i64 y ∧ 0 ≤ x ∧ x ≤ 9223372036854775806 ∧ 0 ≤ y ∧ y + 36 * f ≤ 432 ∧ r = Pu.adA f x y ∧ x ≤ Pu.pow35 f) (fun d _ => (intOf d).toNat)
        case atStart =>
          refine ⟨12, Pu.ad0 delta points false, 0, ?_, rfl, (unhide HB).1, (unhide HB).2, by omega, by omega, unhide HR, by have := Pu.pow35_12; have := (unhide HB).2; omega⟩
          have hB := unhide HB
          rw [unhide HA] at hB ⊢
          first
            | rfl
            | (rw [Int.ediv_one])
            | (rw [wrap64_in (by omega) (by omega)])
            | simp
        case round =>
          obtain ⟨f, x, y, rfl, rfl, h1, h2, h3, h4, h5, h6⟩ := hrel
          have HE := hide h5
          by_cases hx : 455 < x
          · have hf : f ≠ 0 := by intro h; subst h; simp [Pu.pow35] at h6; omega
            obtain ⟨g, rfl⟩ : ∃ g, f = g + 1 := ⟨f - 1, by omega⟩
            have HN := hide (h5.trans (Pu.adA_big g x y hx))
            have HQ : Hid (x / 35 ≤ Pu.pow35 g) := by show x / 35 ≤ Pu.pow35 g; simp only [Pu.pow35] at h6; omega
            clear h5 h6 HE HR
            have ht : x.tdiv 35 = x / 35 := tdiv_pos h1
            go_wp2
            go_round
            case rel => exact ⟨g, x / 35, y + 36, by first | rfl | rw [ht] | (rw [tdiv_pos h1]), by first | rfl | go_num, by omega, by omega, by omega, by omega, unhide HN, unhide HQ⟩
            case measure => simp [intOf]; omega
          · have HN := hide (h5.trans (Pu.adA_end f x y hx))
            clear h5 h6 HE HR
            have ht : (36 * x).tdiv (x + 38) = 36 * x / (x + 38) := tdiv_pos (by omega)
            have hb := Pu.adE_bounds (k := y) h1 (by omega) h3
            unfold Pu.adE at hb
            go_wp2
            go_ret
            refine IntPost.mk ?_
            rw [unhide HN]
            unfold Pu.adE
            first
              | rfl
              | (rw [tdiv_pos (by omega), wrap64_in (by omega) (by omega)])
              | (rw [wrap64_in (by omega) (by omega)])
    · by_cases hp0 : points < 1
      · have HA : Hid (Pu.ad0 delta points false = delta / 2 + delta / 2 / 1) := by show Pu.ad0 delta points false = _; unfold Pu.ad0; simp [if_neg hd0, hp0]
        go_enter Try.func17, Try.ntmps17
        go_wp2
        go_loop [0, 7] (fun d k => ∃ (f : Nat) (x y : Int), d = .int .i64 x ∧ k = .int .i64 y ∧ 0 ≤ x ∧ x ≤ 9223372036854775806 ∧ 0 ≤ y ∧ y + 36 * f ≤ 432 ∧ r = Pu.adA f x y ∧ x ≤ Pu.pow35 f) (fun d _ => (intOf d).toNat)
        case atStart =>
          refine ⟨12, Pu.ad0 delta points false, 0, ?_, rfl, (unhide HB).1, (unhide HB).2, by omega, by omega, unhide HR, by have := Pu.pow35_12; have := (unhide HB).2; omega⟩
          have hB := unhide HB
          rw [unhide HA] at hB ⊢
          first
            | rfl
            | (rw [Int.ediv_one])
            | (rw [wrap64_in (by omega) (by omega)])
            | simp
        case round =>
          obtain ⟨f, x, y, rfl, rfl, h1, h2, h3, h4, h5, h6⟩ := hrel
          have HE := hide h5
          by_cases hx : 455 < x
          · have hf : f ≠ 0 := by intro h; subst h; simp [Pu.pow35] at h6; omega
            obtain ⟨g, rfl⟩ : ∃ g, f = g + 1 := ⟨f - 1, by omega⟩
            have HN := hide (h5.trans (Pu.adA_big g x y hx))
            have HQ : Hid (x / 35 ≤ Pu.pow35 g) := by show x / 35 ≤ Pu.pow35 g; simp only [Pu.pow35] at h6; omega
            clear h5 h6 HE HR
            have ht : x.tdiv 35 = x / 35 := tdiv_pos h1
            go_wp2
            go_round
            case rel => exact ⟨g, x / 35, y + 36, by first | rfl | rw [ht] | (rw [tdiv_pos h1]), by first | rfl | go_num, by omega, by omega, by omega, by omega, unhide HN, unhide HQ⟩
            case measure => simp [intOf]; omega
          · have HN := hide (h5.trans (Pu.adA_end f x y hx))
            clear h5 h6 HE HR
            have ht : (36 * x).tdiv (x + 38) = 36 * x / (x + 38) := tdiv_pos (by omega)
            have hb := Pu.adE_bounds (k := y) h1 (by omega) h3
            unfold Pu.adE at hb
            go_wp2
            go_ret
            refine IntPost.mk ?_
            rw [unhide HN]
            unfold Pu.adE
            first
              | rfl
              | (rw [tdiv_pos (by omega), wrap64_in (by omega) (by omega)])
              | (rw [wrap64_in (by omega) (by omega)])
      · have HA : Hid (Pu.ad0 delta points false = delta / 2 + delta / 2 / points) := by show Pu.ad0 delta points false = _; unfold Pu.ad0; simp [if_neg hd0, if_neg hp0]
        go_enter Try.func17, Try.ntmps17
        go_wp2
        go_loop [0, 7] (fun d k => ∃ (f : Nat) (x y : Int), d = .int .i64 x ∧ k = .int .i64 y ∧ 0 ≤ x ∧ x ≤ 9223372036854775806 ∧ 0 ≤ y ∧ y + 36 * f ≤ 432 ∧ r = Pu.adA f x y ∧ x ≤ Pu.pow35 f) (fun d _ => (intOf d).toNat)
        case atStart =>
          refine ⟨12, Pu.ad0 delta points false, 0, ?_, rfl, (unhide HB).1, (unhide HB).2, by omega, by omega, unhide HR, by have := Pu.pow35_12; have := (unhide HB).2; omega⟩
          have hB := unhide HB
          rw [unhide HA] at hB ⊢
          first
            | rfl
            | (rw [Int.ediv_one])
            | (rw [wrap64_in (by omega) (by omega)])
            | simp
        case round =>
          obtain ⟨f, x, y, rfl, rfl, h1, h2, h3, h4, h5, h6⟩ := hrel
          have HE := hide h5
          by_cases hx : 455 < x
          · have hf : f ≠ 0 := by intro h; subst h; simp [Pu.pow35] at h6; omega
            obtain ⟨g, rfl⟩ : ∃ g, f = g + 1 := ⟨f - 1, by omega⟩
            have HN := hide (h5.trans (Pu.adA_big g x y hx))
            have HQ : Hid (x / 35 ≤ Pu.pow35 g) := by show x / 35 ≤ Pu.pow35 g; simp only [Pu.pow35] at h6; omega
            clear h5 h6 HE HR
            have ht : x.tdiv 35 = x / 35 := tdiv_pos h1
            go_wp2
            go_round
            case rel => exact ⟨g, x / 35, y + 36, by first | rfl | rw [ht] | (rw [tdiv_pos h1]), by first | rfl | go_num, by omega, by omega, by omega, by omega, unhide HN, unhide HQ⟩
            case measure => simp [intOf]; omega
          · have HN := hide (h5.trans (Pu.adA_end f x y hx))
            clear h5 h6 HE HR
            have ht : (36 * x).tdiv (x + 38) = 36 * x / (x + 38) := tdiv_pos (by omega)
            have hb := Pu.adE_bounds (k := y) h1 (by omega) h3
            unfold Pu.adE at hb
            go_wp2
            go_ret
            refine IntPost.mk ?_
            rw [unhide HN]
            unfold Pu.adE
            first
              | rfl
              | (rw [tdiv_pos (by omega), wrap64_in (by omega) (by omega)])
              | (rw [wrap64_in (by omega) (by omega)])
end Go.Proofs.Ytgccindoinhphaa
