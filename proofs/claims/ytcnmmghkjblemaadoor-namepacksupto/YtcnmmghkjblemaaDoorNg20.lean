/- The document's Below, Join and Parent of chapter 20. -/
import Derived.Test.YtcnmmghkjblemaaDoorNf20
namespace Go.Proofs.YtcnmmghkjblemaaDoor
open Go.RowKit

namespace Na
variable {α : Type} {c : α → α → Int}
theorem pre_step {A B : List α} {i : Nat} (hA : i < A.length) (hB : i < B.length) : pre c (A.drop i) (B.drop i) = (decide (c A[i] B[i] = 0) && pre c (A.drop (i + 1)) (B.drop (i + 1))) := by
  rw [List.drop_eq_getElem_cons hA, List.drop_eq_getElem_cons hB]; rfl
theorem pre_short : ∀ {A B : List α}, A.length < B.length → pre c A B = false
  | [], _ :: _, _ => rfl
  | _ :: a, _ :: b, h => by
    unfold pre
    rw [pre_short (A := a) (B := b) (by simpa using h)]; simp
theorem pre_end {A B : List α} {i : Nat} (h : B.length ≤ i) : pre c (A.drop i) (B.drop i) = true := by
  have hB : B.drop i = [] := List.drop_eq_nil_of_le h
  rw [hB]; exact pre_nil _
end Na
def BolN20 (w : World) (b : Bool) (e : Ending) (w' : World) : Prop := e = .returned (.bool b) ∧ Below w.heap.size w w'
set_option maxRecDepth 8000 in
set_option maxHeartbeats 2000000 in
theorem refBelow20 (a b : ByteArray) (w : World) (ha : a.size ≤ 1000000000) (hb : b.size ≤ 1000000000) : Calls Tryd.prog 23 #[.string a, .string b] w (BolN20 w (Na.bel (nums a) (nums b))) := by
  have KA := hide (fun W => refLabels20 a W ha)
  have KB := hide (fun W => refLabels20 b W hb)
  have FX := Na.lab_fine (nums_byt a) (by rw [nums_length]; exact ha)
  have FY := Na.lab_fine (nums_byt b) (by rw [nums_length]; exact hb)
  have H0 : Hid (Na.bel (nums a) (nums b) = Na.pre Na.lbl ((Na.lab (nums a)).reverse.drop 0) ((Na.lab (nums b)).reverse.drop 0)) := rfl
  generalize Na.bel (nums a) (nums b) = q at *
  generalize Na.lab (nums a) = X at *
  generalize Na.lab (nums b) = Y at *
  have hXl := FX.1
  have hYl := FY.1
  have HS : Hid (∀ k, k < X.length → k < Y.length → Na.pre Na.lbl (X.reverse.drop k) (Y.reverse.drop k) = (decide (Na.lbl (X.getD (X.length - 1 - k) []) (Y.getD (Y.length - 1 - k) []) = 0) && Na.pre Na.lbl (X.reverse.drop (k + 1)) (Y.reverse.drop (k + 1)))) := fun k h1 h2 => by
    have := Na.pre_step (c := Na.lbl) (A := X.reverse) (B := Y.reverse) (i := k) (by simpa using h1) (by simpa using h2)
    rw [Na.rev_at h1, Na.rev_at h2] at this
    exact this
  have HE : Hid (∀ k, Y.length ≤ k → Na.pre Na.lbl (X.reverse.drop k) (Y.reverse.drop k) = true) := fun k h3 => Na.pre_end (by simpa using h3)
  have HSH : Hid (X.length < Y.length → q = false) := fun h => by rw [unhide H0]; exact Na.pre_short (by simpa using h)
  have KL : Hid (∀ i j, i < X.length → j < Y.length → ∀ w, Calls Tryd.prog 32 #[.string (strOfNums (X.getD i [])), .string (strOfNums (Y.getD j []))] w (IntD20 w (Na.lbl (X.getD i []) (Y.getD j [])))) := fun i j hi hj w => refLbl20 (Na.fine_at FX hi) (Na.fine_at FY hj) w
  clear FX FY
  go_enter Tryd.func23, Tryd.ntmps23
  go_wp2_with fail
  refine ((unhide KA) _).mono ?_
  rintro e w1 ⟨v1, rfl, o1, b1⟩
  obtain ⟨ax, cx, rfl, _, hcx⟩ := txt_cells20 o1.sv
  have HX := hide hcx
  have HB1 := hide b1
  clear KA o1 hcx b1
  go_wp2_with fail
  refine ((unhide KB) _).mono ?_
  rintro e w2 ⟨v2, rfl, o2, b2⟩
  obtain ⟨ay, cy, rfl, _, hcy⟩ := txt_cells20 o2.sv
  have HY := hide hcy
  have HB2 := hide (bthen (unhide HB1) b2)
  have HX2 : Hid (∀ k, k < X.length → ∃ b off, ax = some ⟨b, off, none⟩ ∧ ∀ W, Below w2.heap.size w2 W → W.cell? ⟨b, off + k, none⟩ = some (.string (strOfNums (X.getD k [])))) := fun k hk => by
    obtain ⟨b, off, h1, h2⟩ := (unhide HX) k hk
    exact ⟨b, off, h1, fun W hW => h2 W (bthen b2 hW)⟩
  clear KB o2 hcy b2 HX HB1
  by_cases hsh : X.length < Y.length
  · have M0 : (X.length : Int) < Y.length := by omega
    obtain rfl := unhide HSH hsh
    clear HSH HS HE KL HX2 HY H0
    go_wp2
    go_ret
    exact ⟨rfl, unhide HB2⟩
  have M0 : ¬ ((X.length : Int) < Y.length) := by omega
  clear HSH
  go_wp2
  go_loopw [7] (fun i wr => ∃ k : Nat, i = .int .i64 ((k : Int) + 1) ∧ k ≤ Y.length ∧ q = Na.pre Na.lbl (X.reverse.drop k) (Y.reverse.drop k) ∧ ∃ m, wr = w2.drewN m) (fun i _ => Y.length + 1 - (intOf i).toNat)
  case atStart => exact ⟨0, rfl, by omega, unhide H0, drew0 w2⟩
  case round =>
    clear H0
    obtain ⟨k, rfl, hk2, hq, hd⟩ := hrel
    by_cases h2 : k < Y.length
    · have L2 : (k : Int) + 1 ≤ Y.length := by omega
      have h1 : k < X.length := by omega
      rw [(unhide HS) k h1 h2] at hq
      obtain ⟨i, hi⟩ : ∃ i : Nat, i = X.length - 1 - k := ⟨_, rfl⟩
      obtain ⟨j, hj⟩ : ∃ j : Nat, j = Y.length - 1 - k := ⟨_, rfl⟩
      rw [← hi, ← hj] at hq
      obtain ⟨bx, ox, rfl, hx⟩ := (unhide HX2) i (by omega)
      obtain ⟨by2, oy, rfl, hy⟩ := (unhide HY) j (by omega)
      have x1 := hx wr (drewB hd)
      have x2 := hy wr (drewB hd)
      have K1 := hide ((unhide KL) i j (by omega) (by omega))
      have hw1 : IntKind.i64.wrap ((X.length : Int) - ((k : Int) + 1)) = (i : Int) := by rw [IntKind.wrap_i64]; omega
      have hw2 : IntKind.i64.wrap ((Y.length : Int) - ((k : Int) + 1)) = (j : Int) := by rw [IntKind.wrap_i64]; omega
      have I1 : (i : Int) < X.length := by omega
      have I2 : (j : Int) < Y.length := by omega
      clear hx hy HX2 HY HS HE KL
      by_cases hz : Na.lbl (X.getD i []) (Y.getD j []) = 0
      · rw [decide_eq_true hz, Bool.true_and] at hq
        rw [hz] at K1
        have HQ := hide hq
        clear hq hz
        generalize strOfNums (X.getD i []) = sx at *
        generalize strOfNums (Y.getD j []) = sy at *
        clear hi hj
        go_wp2
        go_quiet (first | (go_at_call 32; exact Calls.quiet_of (unhide K1 _)))
        go_wp2
        go_roundw
        case rel => exact ⟨k + 1, by go_num, by omega, unhide HQ, drews hd nq⟩
        case measure => simp [intOf]; omega
      · rw [decide_eq_false hz, Bool.false_and] at hq
        subst hq
        have hz2 : (Na.lbl (X.getD i []) (Y.getD j []) != 0) = true := by simpa using hz
        have HB := hide (fun n => bthen (unhide HB2) (drewB (drews hd n)))
        generalize Na.lbl (X.getD i []) (Y.getD j []) = z at *
        generalize strOfNums (X.getD i []) = sx at *
        generalize strOfNums (Y.getD j []) = sy at *
        clear hi hj hz HB2 hd
        go_wp2
        go_quiet (first | (go_at_call 32; exact Calls.quiet_of (unhide K1 _)))
        go_wp2
        go_ret
        exact ⟨rfl, (unhide HB) _⟩
    · have L2 : ¬ ((k : Int) + 1 ≤ Y.length) := by omega
      rw [(unhide HE) k (by omega)] at hq
      subst hq
      have HB := hide (bthen (unhide HB2) (drewB hd))
      clear HX2 HY HS HE KL HB2 hd
      go_wp2
      go_ret
      exact ⟨rfl, unhide HB⟩
end Go.Proofs.YtcnmmghkjblemaaDoor
