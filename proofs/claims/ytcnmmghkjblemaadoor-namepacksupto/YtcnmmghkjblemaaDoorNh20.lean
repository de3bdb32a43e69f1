/- The document's Join and Parent of chapter 20. -/
import Derived.Test.YtcnmmghkjblemaaDoorNg20
namespace Go.Proofs.YtcnmmghkjblemaaDoor
open Go.RowKit

namespace Na
theorem joi_snoc : ∀ (l : List (List Int)) (a : List Int), joi (l ++ [a]) = if l = [] then a else joi l ++ 46 :: a
  | [], a => rfl
  | [b], a => rfl
  | b :: c :: r, a => by
    rw [if_neg (by simp)]
    show b ++ 46 :: joi ((c :: r) ++ [a]) = (b ++ 46 :: joi (c :: r)) ++ 46 :: a
    rw [joi_snoc (c :: r) a, if_neg (by simp)]
    simp
theorem joi_take_le (l : List (List Int)) : ∀ k, (joi (l.take k)).length ≤ (joi l).length := by
  have : ∀ (m : List (List Int)) (l : List (List Int)), (joi l).length ≤ (joi (l ++ m)).length := by
    intro m
    induction m with
    | nil => intro l; simp
    | cons a m ih =>
      intro l
      have h1 := ih (l ++ [a])
      rw [List.append_assoc] at h1
      have h2 : (joi l).length ≤ (joi (l ++ [a])).length := by
        rw [joi_snoc]
        split
        · rename_i h; rw [h]; simp [joi]
        · simp
      exact Nat.le_trans h2 h1
  intro k
  have h := this (l.drop k) (l.take k)
  rw [List.take_append_drop] at h
  exact h
theorem take_snoc {X : List (List Int)} {k : Nat} (h : k < X.length) : X.take (k + 1) = X.take k ++ [X.getD k []] := by
  rw [List.take_add_one]
  simp [List.getD, h]
end Na
def StrN20 (w : World) (l : List Int) (e : Ending) (w' : World) : Prop := ∃ t : ByteArray, e = .returned (.string t) ∧ nums t = l ∧ w' = w
set_option maxHeartbeats 1000000 in
theorem refJoin20 {w : World} {v : Value} {X : List (List Int)} (h : Sv w v (txt20 X)) (hF : Na.Fine X) (hl : (Na.joi X).length ≤ 1000000000) : Calls Tryd.prog 30 #[v] w (StrN20 w (Na.joi X)) := by
  obtain ⟨ax, cx, rfl, _, hcx⟩ := txt_cells20 h
  have hXl := hF.1
  have HX := hide hcx
  have HF := hide (fun k (hk : k < X.length) => Na.fine_at hF hk)
  have HL : Hid (∀ k, (Na.joi (X.take k)).length ≤ 1000000000) := fun k => Nat.le_trans (Na.joi_take_le X k) hl
  have HE : Hid (X.take X.length = X) := List.take_length
  clear h hF hcx
  go_enter Tryd.func30, Tryd.ntmps30
  go_wp2
  go_loopw [3, 4] (fun sv i wr => ∃ (k : Nat) (t : ByteArray), i = .int .i64 k ∧ sv = .string t ∧ k ≤ X.length ∧ nums t = Na.joi (X.take k) ∧ wr = w) (fun _ i _ => X.length - (intOf i).toNat)
  case atStart => exact ⟨0, ⟨#[]⟩, rfl, rfl, by omega, rfl, rfl⟩
  case round =>
    obtain ⟨k, t, rfl, rfl, hk, ht, rfl⟩ := hrel
    by_cases hlt : k < X.length
    · have L1 : (k : Int) < X.length := by omega
      obtain ⟨b, off, rfl, hx⟩ := (unhide HX) k hlt
      have x1 := hx wr (Below.refl _ _)
      have hf := (unhide HF) k hlt
      have h2 := (unhide HL) (k + 1)
      rw [Na.take_snoc hlt, Na.joi_snoc] at h2
      have hs1 : t.size = (Na.joi (X.take k)).length := by rw [← ht, nums_length]
      have HJ : Hid (Na.joi (X.take (k + 1)) = if X.take k = [] then X.getD k [] else Na.joi (X.take k) ++ 46 :: X.getD k []) := by
        show _ = _
        rw [Na.take_snoc hlt, Na.joi_snoc]
      have HN : Hid (nums (strOfNums (X.getD k [])) = X.getD k []) := nums_str20 hf.1
      have hz := strOf_size20 (X.getD k [])
      by_cases k0 : k = 0
      · have hke : X.take k = [] := by rw [k0]; rfl
        have hte : t = ⟨#[]⟩ := nums_inj (by rw [ht, hke]; rfl)
        subst hte
        have HR : Hid (nums ((⟨#[]⟩ : ByteArray) ++ strOfNums (X.getD k [])) = Na.joi (X.take (k + 1))) := by
          show _ = _
          rw [unhide HJ, if_pos hke, nums_append, unhide HN]; rfl
        have q1 : ∀ w, (Op.stringOp .add (⟨#[]⟩ : ByteArray) (strOfNums (X.getD k []))).run Tryd.prog w = .ok (.string ((⟨#[]⟩ : ByteArray) ++ strOfNums (X.getD k []))) w := fun w => run_string_add_sum w _ _ (by rw [hz]; show 0 + _ ≤ _; omega)
        have L0 : ¬ ((0 : Int) < k) := by omega
        clear HJ HN hx HX HF HL HE h2 ht hs1 hke k0
        generalize strOfNums (X.getD k []) = sx at *
        go_wp2
        go_roundw
        case rel => exact ⟨k + 1, _, by go_num, rfl, by omega, unhide HR, trivial⟩
        case measure => simp [intOf]; omega
      · have hne : ¬ X.take k = [] := fun e => by
          have := congrArg List.length e
          rw [List.length_take, Nat.min_eq_left (by omega)] at this
          exact k0 this
        rw [if_neg hne] at h2
        have HR : Hid (nums (t ++ (⟨#[46]⟩ : ByteArray) ++ strOfNums (X.getD k [])) = Na.joi (X.take (k + 1))) := by
          show _ = _
          rw [unhide HJ, if_neg hne, nums_append, nums_append, unhide HN, ht]
          show Na.joi (X.take k) ++ [46] ++ X.getD k [] = _
          simp
        have L0 : (0 : Int) < k := by omega
        simp only [List.length_append, List.length_cons] at h2
        have q1 : ∀ w, (Op.stringOp .add t (⟨#[46]⟩ : ByteArray)).run Tryd.prog w = .ok (.string (t ++ (⟨#[46]⟩ : ByteArray))) w := fun w => run_string_add_sum w _ _ (by show t.size + 1 ≤ _; omega)
        have q2 : ∀ w, (Op.stringOp .add (t ++ (⟨#[46]⟩ : ByteArray)) (strOfNums (X.getD k []))).run Tryd.prog w = .ok (.string (t ++ (⟨#[46]⟩ : ByteArray) ++ strOfNums (X.getD k []))) w := fun w => run_string_add_sum w _ _ (by rw [hz, ByteArray.size_append]; show t.size + 1 + _ ≤ _; omega)
        clear HJ HN hx HX HF HL HE ht
        generalize strOfNums (X.getD k []) = sx at *
        go_wp2
        go_roundw
        case rel => exact ⟨k + 1, _, by go_num, rfl, by omega, unhide HR, trivial⟩
        case measure => simp [intOf]; omega
    · obtain rfl : k = X.length := by omega
      have L1 : ¬ ((X.length : Int) < X.length) := by omega
      rw [unhide HE] at ht
      clear HX HF HL HE
      go_wp2
      go_ret
      exact ⟨t, rfl, ht, rfl⟩
end Go.Proofs.YtcnmmghkjblemaaDoor
