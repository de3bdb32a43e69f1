/- The contracts of the document's own lead and Decode. -/
import Derived.Test.YtchjnplceelgoaaRefF3
namespace Go.Proofs.Ytchjnplceelgoaa
open Go.RowKit

def leadT (b : Int) : Int × Int × Int := match Utf.lead b with
  | none => (-1, 0, 0)
  | some (n, lo, hi, _) => ((n : Int), lo, hi)

def LeadPost (w : World) (r : Int × Int × Int) (e : Ending) (w' : World) : Prop :=
  e = .returned (.tuple #[.int .i64 r.1, .int .u8 r.2.1, .int .u8 r.2.2]) ∧ w' = w
theorem LeadPost.mk {w : World} {r : Int × Int × Int} {a b c : Int} (h : r = (a, b, c)) : LeadPost w r (.returned (.tuple #[.int .i64 a, .int .u8 b, .int .u8 c])) w := by
  subst h; exact ⟨rfl, rfl⟩

theorem lead_cases (b : Int) : (b < 128 ∧ Utf.lead b = some (0, 0, 0, b)) ∨ ((194 ≤ b ∧ b ≤ 223) ∧ Utf.lead b = some (1, 128, 191, b % 32)) ∨ (b = 224 ∧ Utf.lead b = some (2, 160, 191, b % 16)) ∨ (b = 237 ∧ Utf.lead b = some (2, 128, 159, b % 16)) ∨
    ((225 ≤ b ∧ b ≤ 239 ∧ b ≠ 237) ∧ Utf.lead b = some (2, 128, 191, b % 16)) ∨ (b = 240 ∧ Utf.lead b = some (3, 144, 191, b % 8)) ∨ ((241 ≤ b ∧ b ≤ 243) ∧ Utf.lead b = some (3, 128, 191, b % 8)) ∨ (b = 244 ∧ Utf.lead b = some (3, 128, 143, b % 8)) ∨
    ((128 ≤ b ∧ ¬ (194 ≤ b ∧ b ≤ 244)) ∧ Utf.lead b = none) := by
  by_cases h1 : b < 128
  · exact .inl ⟨h1, by simp [Utf.lead, h1]⟩
  · by_cases h2 : 194 ≤ b ∧ b ≤ 223
    · exact .inr (.inl ⟨h2, Utf.lead2 h2⟩)
    · by_cases h3 : 224 ≤ b ∧ b ≤ 239
      · have h4 := Utf.lead3 h3
        by_cases a1 : b = 224
        · right; right; left; refine ⟨a1, ?_⟩; rw [h4, if_pos a1, if_neg (by omega)]
        · by_cases a2 : b = 237
          · right; right; right; left; refine ⟨a2, ?_⟩; rw [h4, if_neg a1, if_pos a2]
          · right; right; right; right; left; refine ⟨by omega, ?_⟩; rw [h4, if_neg a1, if_neg a2]
      · by_cases h5 : 240 ≤ b ∧ b ≤ 244
        · have h4 := Utf.lead4 h5
          by_cases a1 : b = 240
          · right; right; right; right; right; left; refine ⟨a1, ?_⟩; rw [h4, if_pos a1, if_neg (by omega)]
          · by_cases a2 : b = 244
            · right; right; right; right; right; right; right; left; refine ⟨a2, ?_⟩; rw [h4, if_neg a1, if_pos a2]
            · right; right; right; right; right; right; left; refine ⟨by omega, ?_⟩; rw [h4, if_neg a1, if_neg a2]
        · right; right; right; right; right; right; right; right
          refine ⟨by omega, ?_⟩
          unfold Utf.lead
          rw [if_neg h1, if_neg h2, if_neg (by omega), if_neg (by omega), if_neg (by omega), if_neg (by omega), if_neg (by omega), if_neg (by omega)]

set_option maxHeartbeats 1000000 in
theorem refLead_any (b : Int) (w : World) (h0 : 0 ≤ b) (h1 : b ≤ 255) :
    Calls Try.prog 31 #[.int .u8 b] w (LeadPost w (leadT b)) := by
  rcases lead_cases b with ⟨h, e⟩ | ⟨h, e⟩ | ⟨h, e⟩ | ⟨h, e⟩ | ⟨h, e⟩ | ⟨h, e⟩ | ⟨h, e⟩ | ⟨h, e⟩ | ⟨h, e⟩
  · have HF := LeadPost.mk (w := w) (show leadT b = (0, 0, 0) by unfold leadT; rw [e]; rfl)
    clear e
    generalize leadT b = r at *
    go_enter Try.func31, Try.ntmps31
    go_wp2
    go_ret3
    exact HF
  · have HF := LeadPost.mk (w := w) (show leadT b = (1, 128, 191) by unfold leadT; rw [e]; rfl)
    clear e
    generalize leadT b = r at *
    obtain ⟨ha, hb⟩ := h
    go_enter Try.func31, Try.ntmps31
    go_wp2
    go_ret3
    exact HF
  · have HF := LeadPost.mk (w := w) (show leadT b = (2, 160, 191) by unfold leadT; rw [e]; rfl)
    clear e
    generalize leadT b = r at *
    subst h
    go_enter Try.func31, Try.ntmps31
    go_wp2
    go_ret3
    exact HF
  · have HF := LeadPost.mk (w := w) (show leadT b = (2, 128, 159) by unfold leadT; rw [e]; rfl)
    clear e
    generalize leadT b = r at *
    subst h
    go_enter Try.func31, Try.ntmps31
    go_wp2
    go_ret3
    exact HF
  · have HF := LeadPost.mk (w := w) (show leadT b = (2, 128, 191) by unfold leadT; rw [e]; rfl)
    clear e
    generalize leadT b = r at *
    obtain ⟨ha, hb, hc⟩ := h
    have e1 : (b == 224) = false := beq_eq_false_iff_ne.2 (by omega)
    have e2 : (b == 237) = false := beq_eq_false_iff_ne.2 hc
    have a1 : ¬ b ≤ 223 := by omega
    clear hc
    go_enter Try.func31, Try.ntmps31
    go_wp2
    go_ret3
    exact HF
  · have HF := LeadPost.mk (w := w) (show leadT b = (3, 144, 191) by unfold leadT; rw [e]; rfl)
    clear e
    generalize leadT b = r at *
    subst h
    go_enter Try.func31, Try.ntmps31
    go_wp2
    go_ret3
    exact HF
  · have HF := LeadPost.mk (w := w) (show leadT b = (3, 128, 191) by unfold leadT; rw [e]; rfl)
    clear e
    generalize leadT b = r at *
    obtain ⟨ha, hb⟩ := h
    have e1 : (b == 224) = false := beq_eq_false_iff_ne.2 (by omega)
    have e2 : (b == 237) = false := beq_eq_false_iff_ne.2 (by omega)
    have e3 : (b == 240) = false := beq_eq_false_iff_ne.2 (by omega)
    go_enter Try.func31, Try.ntmps31
    go_wp2
    go_ret3
    exact HF
  · have HF := LeadPost.mk (w := w) (show leadT b = (3, 128, 143) by unfold leadT; rw [e]; rfl)
    clear e
    generalize leadT b = r at *
    subst h
    go_enter Try.func31, Try.ntmps31
    go_wp2
    go_ret3
    exact HF
  · have HF := LeadPost.mk (w := w) (show leadT b = (-1, 0, 0) by unfold leadT; rw [e])
    clear e
    generalize leadT b = r at *
    obtain ⟨ha, hb⟩ := h
    have e1 : (b == 224) = false := beq_eq_false_iff_ne.2 (by omega)
    have e2 : (b == 237) = false := beq_eq_false_iff_ne.2 (by omega)
    have e3 : (b == 240) = false := beq_eq_false_iff_ne.2 (by omega)
    have e4 : (b == 244) = false := beq_eq_false_iff_ne.2 (by omega)
    by_cases hc : b < 194
    · go_enter Try.func31, Try.ntmps31
      go_wp2
      go_ret3
      exact HF
    · have hd : 244 < b := by omega
      clear hb
      go_enter Try.func31, Try.ntmps31
      go_wp2
      go_ret3
      exact HF
end Go.Proofs.Ytchjnplceelgoaa
