/- The document's Compare and Below of chapter 20. -/
import Derived.Test.YtcnmmghkjblemaaDoorNe20
namespace Go.Proofs.YtcnmmghkjblemaaDoor
open Go.RowKit

namespace Na
theorem spl_mem : ∀ (l : List Int), ∀ a ∈ spl l, (∀ x ∈ a, x ∈ l) ∧ a.length ≤ l.length
  | [], a, h => by simp only [spl, List.mem_singleton] at h; subst h; exact ⟨fun x hx => (by cases hx), by simp⟩
  | c :: l, a, h => by
    by_cases hc : c = 46
    · subst hc
      rw [spl_dot] at h
      rcases List.mem_cons.1 h with rfl | h
      · exact ⟨fun x hx => (by cases hx), by simp⟩
      · obtain ⟨g1, g2⟩ := spl_mem l a h
        exact ⟨fun x hx => List.mem_cons_of_mem _ (g1 x hx), by simp; omega⟩
    · obtain ⟨b, r, e1, e2⟩ := spl_cons (l := l) hc
      rw [e2] at h
      rcases List.mem_cons.1 h with rfl | h
      · obtain ⟨g1, g2⟩ := spl_mem l b (by rw [e1]; exact List.mem_cons_self)
        refine ⟨fun x hx => ?_, by simp; omega⟩
        rcases List.mem_cons.1 hx with rfl | hx
        · exact List.mem_cons_self
        · exact List.mem_cons_of_mem _ (g1 x hx)
      · obtain ⟨g1, g2⟩ := spl_mem l a (by rw [e1]; exact List.mem_cons_of_mem _ h)
        exact ⟨fun x hx => List.mem_cons_of_mem _ (g1 x hx), by simp; omega⟩
theorem spl_len : ∀ (l : List Int), (spl l).length ≤ l.length + 1
  | [] => by simp [spl]
  | c :: l => by
    by_cases hc : c = 46
    · subst hc; rw [spl_dot]; have := spl_len l; simp; omega
    · obtain ⟨b, r, e1, e2⟩ := spl_cons (l := l) hc
      have := spl_len l
      rw [e1] at this
      rw [e2]; simp at *; omega
/-- Labels that lie in a text of bytes. -/
def Fine (X : List (List Int)) : Prop := X.length ≤ 1000000001 ∧ ∀ a ∈ X, Byt a ∧ a.length ≤ 1000000000
theorem lab_fine {s : List Int} (hb : Byt s) (hl : s.length ≤ 1000000000) : Fine (lab s) := by
  unfold lab
  split
  · exact ⟨by simp, fun a ha => (by cases ha)⟩
  · refine ⟨by have := spl_len s; omega, fun a ha => ?_⟩
    obtain ⟨g1, g2⟩ := spl_mem s a ha
    exact ⟨fun z hz => hb z (g1 z hz), by omega⟩
theorem rev_at {X : List (List Int)} {k : Nat} (hk : k < X.length) : X.reverse[k]'(by simpa using hk) = X.getD (X.length - 1 - k) [] := by
  rw [List.getElem_reverse]
  simp [List.getD, show X.length - 1 - k < X.length by omega]
theorem fine_at {X : List (List Int)} (h : Fine X) {k : Nat} (hk : k < X.length) : Byt (X.getD k []) ∧ (X.getD k []).length ≤ 1000000000 := h.2 _ (by simp [List.getD, hk])
end Na
theorem txt_at20 {X : List (List Int)} {k : Nat} (hk : k < X.length) : (txt20 X).getD k undef = .string (strOfNums (X.getD k [])) := by
  simp [txt20, List.getD, hk]
theorem txt_len20 (X : List (List Int)) : (txt20 X).length = X.length := by simp [txt20]
theorem strOf_size20 (l : List Int) : (strOfNums l).size = l.length := by simp [strOfNums, ByteArray.size]
theorem refLbl20 {u v : List Int} (hu : Byt u ∧ u.length ≤ 1000000000) (hv : Byt v ∧ v.length ≤ 1000000000) (w : World) : Calls Tryd.prog 32 #[.string (strOfNums u), .string (strOfNums v)] w (IntD20 w (Na.lbl u v)) := by
  have := refLabel20 (strOfNums u) (strOfNums v) w (by rw [strOf_size20]; exact hu.2) (by rw [strOf_size20]; exact hv.2)
  rw [nums_str20 hu.1, nums_str20 hv.1] at this
  exact this
def IntN20 (w : World) (n : Int) (e : Ending) (w' : World) : Prop := e = .returned (.int .i64 n) ∧ Below w.heap.size w w'
/-- Texts, to read, in any world behind this one. -/
theorem txt_cells20 {w : World} {v : Value} {X : List (List Int)} (h : Sv w v (txt20 X)) : ∃ ao cap, v = .slice ao X.length cap ∧ X.length ≤ 140737488355328 ∧ ∀ k, k < X.length → ∃ b off, ao = some ⟨b, off, none⟩ ∧ ∀ W, Below w.heap.size w W → W.cell? ⟨b, off + k, none⟩ = some (.string (strOfNums (X.getD k []))) := by
  obtain ⟨ao, cap, hv, _, _⟩ := h.shape
  rw [txt_len20] at hv
  have hl := h.1
  rw [txt_len20] at hl
  refine ⟨ao, cap, hv, hl, fun k hk => ?_⟩
  obtain ⟨b, off, cap', hv', _, _, hc⟩ := h.place (by rw [txt_len20]; omega)
  rw [hv] at hv'
  simp only [Value.slice.injEq] at hv'
  refine ⟨b, off, hv'.1, fun W hW => ?_⟩
  have := hc k (by rw [txt_len20]; exact hk)
  rw [txt_at20 hk] at this
  rw [hW.cell (lt_of_cell? this)]
  exact this
set_option maxRecDepth 8000 in
set_option maxHeartbeats 2000000 in
theorem refCompare20 (a b : ByteArray) (w : World) (ha : a.size ≤ 1000000000) (hb : b.size ≤ 1000000000) : Calls Tryd.prog 21 #[.string a, .string b] w (IntN20 w (Na.cmp (nums a) (nums b))) := by
  have KA := hide (fun W => refLabels20 a W ha)
  have KB := hide (fun W => refLabels20 b W hb)
  have FX := Na.lab_fine (nums_byt a) (by rw [nums_length]; exact ha)
  have FY := Na.lab_fine (nums_byt b) (by rw [nums_length]; exact hb)
  have H0 : Hid (Na.cmp (nums a) (nums b) = Na.lex Na.lbl ((Na.lab (nums a)).reverse.drop 0) ((Na.lab (nums b)).reverse.drop 0)) := rfl
  generalize Na.cmp (nums a) (nums b) = q at *
  generalize Na.lab (nums a) = X at *
  generalize Na.lab (nums b) = Y at *
  have hXl := FX.1
  have hYl := FY.1
  have HS : Hid (∀ k, k < X.length → k < Y.length → Na.lex Na.lbl (X.reverse.drop k) (Y.reverse.drop k) = if Na.lbl (X.getD (X.length - 1 - k) []) (Y.getD (Y.length - 1 - k) []) = 0 then Na.lex Na.lbl (X.reverse.drop (k + 1)) (Y.reverse.drop (k + 1)) else Na.lbl (X.getD (X.length - 1 - k) []) (Y.getD (Y.length - 1 - k) [])) := fun k h1 h2 => by
    have := Na.lex_step (c := Na.lbl) (A := X.reverse) (B := Y.reverse) (i := k) (by simpa using h1) (by simpa using h2)
    rw [Na.rev_at h1, Na.rev_at h2] at this
    exact this
  have HE : Hid (∀ k, k ≤ X.length → k ≤ Y.length → (X.length ≤ k ∨ Y.length ≤ k) → Na.lex Na.lbl (X.reverse.drop k) (Y.reverse.drop k) = if X.length < Y.length then -1 else if Y.length < X.length then 1 else 0) := fun k h1 h2 h3 => by
    rw [Na.lex_end (by simp; omega) (by simp; omega)]; simp
  have KL : Hid (∀ i j, i < X.length → j < Y.length → ∀ w, Calls Tryd.prog 32 #[.string (strOfNums (X.getD i [])), .string (strOfNums (Y.getD j []))] w (IntD20 w (Na.lbl (X.getD i []) (Y.getD j [])))) := fun i j hi hj w => refLbl20 (Na.fine_at FX hi) (Na.fine_at FY hj) w
  clear FX FY
  go_enter Tryd.func21, Tryd.ntmps21
  go_wp2_with fail
  refine ((unhide KA) _).mono ?_
  rintro e w1 ⟨v1, rfl, o1, b1⟩
  obtain ⟨ax, cx, rfl, _, hcx⟩ := txt_cells20 o1.sv
  have HX := hide hcx
  have HB1 := hide b1
  clear KA o1 hcx b1
  go_wp2_with fail
  refine ((unhide KB) _).mono ?_
  rintro e w2 ⟨v2, rfl, o2, b2⟩
  obtain ⟨ay, cy, rfl, _, hcy⟩ := txt_cells20 o2.sv
  have HY := hide hcy
  have HB2 := hide (bthen (unhide HB1) b2)
  have HX2 : Hid (∀ k, k < X.length → ∃ b off, ax = some ⟨b, off, none⟩ ∧ ∀ W, Below w2.heap.size w2 W → W.cell? ⟨b, off + k, none⟩ = some (.string (strOfNums (X.getD k [])))) := fun k hk => by
    obtain ⟨b, off, h1, h2⟩ := (unhide HX) k hk
    exact ⟨b, off, h1, fun W hW => h2 W (bthen b2 hW)⟩
  clear KB o2 hcy b2 HX HB1
  go_wp2
  go_loopw [7, 8] (fun i _ wr => ∃ k : Nat, i = .int .i64 ((k : Int) + 1) ∧ k ≤ X.length ∧ k ≤ Y.length ∧ q = Na.lex Na.lbl (X.reverse.drop k) (Y.reverse.drop k) ∧ ∃ m, wr = w2.drewN m) (fun i _ _ => X.length + 1 - (intOf i).toNat)
  case atStart => exact ⟨0, rfl, by omega, by omega, unhide H0, drew0 w2⟩
  case round =>
    clear H0
    obtain ⟨k, rfl, hk1, hk2, hq, hd⟩ := hrel
    by_cases h1 : k < X.length
    · have L1 : (k : Int) + 1 ≤ X.length := by omega
      by_cases h2 : k < Y.length
      · have L2 : (k : Int) + 1 ≤ Y.length := by omega
        rw [(unhide HS) k h1 h2] at hq
        obtain ⟨i, hi⟩ : ∃ i : Nat, i = X.length - 1 - k := ⟨_, rfl⟩
        obtain ⟨j, hj⟩ : ∃ j : Nat, j = Y.length - 1 - k := ⟨_, rfl⟩
        rw [← hi, ← hj] at hq
        obtain ⟨bx, ox, rfl, hx⟩ := (unhide HX2) i (by omega)
        obtain ⟨by2, oy, rfl, hy⟩ := (unhide HY) j (by omega)
        have x1 := hx wr (drewB hd)
        have x2 := hy wr (drewB hd)
        have K1 := hide ((unhide KL) i j (by omega) (by omega))
        have hw1 : IntKind.i64.wrap ((X.length : Int) - ((k : Int) + 1)) = (i : Int) := by rw [IntKind.wrap_i64]; omega
        have hw2 : IntKind.i64.wrap ((Y.length : Int) - ((k : Int) + 1)) = (j : Int) := by rw [IntKind.wrap_i64]; omega
        have I1 : (i : Int) < X.length := by omega
        have I2 : (j : Int) < Y.length := by omega
        have hbnd := hx
        clear hx hy hbnd HX2 HY HS HE KL
        by_cases hz : Na.lbl (X.getD i []) (Y.getD j []) = 0
        · rw [if_pos hz] at hq
          rw [hz] at K1
          have HQ := hide hq
          clear hq hz
          generalize strOfNums (X.getD i []) = sx at *
          generalize strOfNums (Y.getD j []) = sy at *
          clear hi hj
          go_wp2
          go_quiet (first | (go_at_call 32; exact Calls.quiet_of (unhide K1 _)))
          go_wp2
          go_roundw
          case rel => exact ⟨k + 1, by go_num, by omega, by omega, unhide HQ, drews hd nq⟩
          case measure => simp [intOf]; omega
        · rw [if_neg hz] at hq
          rw [← hq] at K1 hz
          have hz2 : (q != 0) = true := by simpa using hz
          have HB := hide (fun n => bthen (unhide HB2) (drewB (drews hd n)))
          generalize strOfNums (X.getD i []) = sx at *
          generalize strOfNums (Y.getD j []) = sy at *
          clear hi hj hq hz HB2 hd
          go_wp2
          go_quiet (first | (go_at_call 32; exact Calls.quiet_of (unhide K1 _)))
          go_wp2
          go_ret
          exact ⟨rfl, (unhide HB) _⟩
      · have L2 : ¬ ((k : Int) + 1 ≤ Y.length) := by omega
        rw [(unhide HE) k hk1 hk2 (by omega)] at hq
        clear HX2 HY HS HE KL
        have HB := hide (bthen (unhide HB2) (drewB hd))
        clear HB2 hd
        rcases Nat.lt_trichotomy X.length Y.length with hl | hl | hl
        · rw [if_pos hl] at hq
          subst hq
          have M1 : (X.length : Int) < Y.length := by omega
          go_wp2
          go_ret
          exact ⟨rfl, unhide HB⟩
        · rw [if_neg (by omega), if_neg (by omega)] at hq
          subst hq
          have M1 : ¬ ((X.length : Int) < Y.length) := by omega
          have M2 : ¬ ((Y.length : Int) < X.length) := by omega
          go_wp2
          go_ret
          exact ⟨rfl, unhide HB⟩
        · rw [if_neg (by omega), if_pos hl] at hq
          subst hq
          have M1 : ¬ ((X.length : Int) < Y.length) := by omega
          have M2 : (Y.length : Int) < X.length := by omega
          go_wp2
          go_ret
          exact ⟨rfl, unhide HB⟩
    · have L1 : ¬ ((k : Int) + 1 ≤ X.length) := by omega
      rw [(unhide HE) k hk1 hk2 (by omega)] at hq
      clear HX2 HY HS HE KL
      have HB := hide (bthen (unhide HB2) (drewB hd))
      clear HB2 hd
      rcases Nat.lt_trichotomy X.length Y.length with hl | hl | hl
      · rw [if_pos hl] at hq
        subst hq
        have M1 : (X.length : Int) < Y.length := by omega
        go_wp2
        go_ret
        exact ⟨rfl, unhide HB⟩
      · rw [if_neg (by omega), if_neg (by omega)] at hq
        subst hq
        have M1 : ¬ ((X.length : Int) < Y.length) := by omega
        have M2 : ¬ ((Y.length : Int) < X.length) := by omega
        go_wp2
        go_ret
        exact ⟨rfl, unhide HB⟩
      · rw [if_neg (by omega), if_pos hl] at hq
        subst hq
        have M1 : ¬ ((X.length : Int) < Y.length) := by omega
        have M2 : (Y.length : Int) < X.length := by omega
        go_wp2
        go_ret
        exact ⟨rfl, unhide HB⟩
end Go.Proofs.YtcnmmghkjblemaaDoor
