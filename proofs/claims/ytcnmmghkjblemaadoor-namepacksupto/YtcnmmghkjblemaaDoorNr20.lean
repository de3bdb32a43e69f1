/- The program's Unpack. -/
import Derived.Test.YtcnmmghkjblemaaDoorNq20
namespace Go.Proofs.YtcnmmghkjblemaaDoor
open Go.RowKit

namespace Na
theorem joi_lib : ∀ (L : List (List UInt8)), n8_20 (Lib.join L [46]) = joi (L.map n8_20)
  | [] => rfl
  | [a] => by simp [Lib.join, List.intercalate, joi]
  | a :: b :: r => by
    have ih := joi_lib (b :: r)
    have e : Lib.join (a :: b :: r) [46] = a ++ 46 :: Lib.join (b :: r) [46] := by simp [Lib.join, List.intercalate, List.intersperse]
    rw [e]
    show n8_20 (a ++ 46 :: Lib.join (b :: r) [46]) = n8_20 a ++ 46 :: joi ((b :: r).map n8_20)
    rw [← ih]
    simp [n8_20]
/-- 20.2, at any place: what is wrong, the text, the place behind. -/
def una (b : List Int) (a : Int) : Int × List Int × Int :=
  if a < 0 ∨ (b.length : Int) < a then (1, [], 0) else
    if (unp (b.drop a.toNat)).1 = 0 then (0, (unp (b.drop a.toNat)).2.1, a + ((unp (b.drop a.toNat)).2.2 : Int)) else ((unp (b.drop a.toNat)).1, [], 0)
theorem una_ups {b : List Int} {a : Nat} (h : a ≤ b.length) : una b a = if (ups b a []).1 = 0 then (if (joi (ups b a []).2.1).length ≤ 253 then (0, joi (ups b a []).2.1, ((ups b a []).2.2 : Int)) else (2, [], 0)) else ((ups b a []).1, [], 0) := by
  unfold una ups unp
  rw [if_neg (by omega), show ((a : Int)).toNat = a by omega]
  by_cases h0 : (upl (b.drop a)).1 = 0
  · simp only [h0, if_true, List.nil_append]
    by_cases h1 : (joi (upl (b.drop a)).2.1).length ≤ 253
    · simp [h1]
    · simp [h1]
  · simp [h0]
theorem enc_ge (l : List (List Int)) : l.length ≤ (enc l).length := by
  induction l with
  | nil => simp
  | cons c r ih => rw [enc_cons]; simp; omega
theorem ups_fine {b : List Int} {a : Nat} (hb : Byt b) (hl : b.length ≤ 1000000000) (h : (ups b a []).1 = 0) : Fine (ups b a []).2.1 ∧ (joi (ups b a []).2.1).length ≤ 1000000000 := by
  have hb2 : Byt (b.drop a) := fun z hz => hb z (List.mem_of_mem_drop hz)
  unfold ups at h ⊢
  by_cases h0 : (upl (b.drop a)).1 = 0
  · rw [if_pos h0]
    simp only [List.nil_append]
    obtain ⟨g1, g2, g3⟩ := upl_back (b.drop a) (fun x hx => (hb2 x hx).1) _ _ (Prod.ext h0 rfl : upl (b.drop a) = (0, (upl (b.drop a)).2.1, (upl (b.drop a)).2.2))
    rw [List.length_drop] at g1
    generalize (upl (b.drop a)).2.1 = l at *
    generalize (upl (b.drop a)).2.2 = n at *
    have he : (enc l).length ≤ 1000000000 := by rw [← g2, List.length_take, List.length_drop]; omega
    have hby : Byt (enc l) := fun z hz => by rw [← g2] at hz; exact hb2 z (List.mem_of_mem_take hz)
    have hj : (joi l).length ≤ 1000000000 := by
      by_cases hn : l = []
      · subst hn; simp [joi]
      · have := joi_len l hn; omega
    refine ⟨⟨?_, fun x hx => ⟨fun z hz => hby z ?_, ?_⟩⟩, hj⟩
    · have := enc_ge l
      omega
    · unfold enc
      rw [List.mem_append, List.mem_flatMap]
      exact .inl ⟨x, hx, List.mem_cons_of_mem _ hz⟩
    · have := (g3 x hx).1
      unfold okl at this
      simp at this
      omega
  · rw [if_neg h0] at h
    exact absurd h h0
end Na
def StrB20 (w : World) (l : List Int) (e : Ending) (w' : World) : Prop := ∃ t : ByteArray, e = .returned (.string t) ∧ nums t = l ∧ Below w.heap.size w w'
theorem join20 {w : World} {v : Value} {X : List (List Int)} (h : Sv w v (txt20 X)) (hF : Na.Fine X) (hl : (Na.joi X).length ≤ 1000000000) : Calls Tryd.prog 27 #[v, .string ⟨#[46]⟩] w (StrB20 w (Na.joi X)) := by
  rcases Nat.eq_zero_or_pos X.length with h0 | h0
  · obtain rfl := List.eq_nil_of_length_eq_zero h0
    obtain ⟨ao, cap, rfl, _, _⟩ := h.shape
    refine (Tryd.strings_Join_none ao cap ⟨#[46]⟩ w).mono ?_
    rintro e w1 ⟨rfl, rfl⟩
    exact ⟨_, rfl, rfl, Below.refl _ _⟩
  · obtain ⟨b, off, cap, rfl, hc1, hc2, hc⟩ := h.place (by rw [txt_len20]; exact h0)
    rw [txt_len20] at *
    have hx : (X.map strOfNums).map nums = X := by
      rw [List.map_map]
      conv => rhs; rw [← List.map_id X]
      exact List.map_congr_left fun a ha => nums_str20 (hF.2 a ha).1
    have hj : n8_20 (Lib.join ((X.map strOfNums).map (·.data.toList)) [46]) = Na.joi X := by
      rw [Na.joi_lib, List.map_map]
      exact congrArg Na.joi hx
    have hjl : (Lib.join ((X.map strOfNums).map (·.data.toList)) [46]).length = (Na.joi X).length := by
      rw [← hj]; simp [n8_20]
    have hxl := hF.1
    have := Tryd.strings_Join b off cap (X.map strOfNums) ⟨#[46]⟩ w (fun j x hx => by
      have hj : j < X.length := by have := (List.getElem?_eq_some_iff.1 hx).1; simpa using this
      have := hc j hj
      rw [this, txt_at20 hj]
      simp [hj] at hx ⊢
      exact hx) (lt_of_cell? (by have := hc 0 h0; exact this)) (by simp; omega) (by simpa using hc1) (by show (Lib.join _ [46]).length ≤ _; rw [hjl]; omega)
    rw [List.length_map] at this
    refine this.mono ?_
    rintro e w1 ⟨rfl, hb⟩
    exact ⟨_, rfl, hj, hb⟩
def UnpP20 (w : World) (q : Int × List Int × Int) (e : Ending) (w' : World) : Prop := ∃ t : ByteArray, e = .returned (.tuple #[.string t, .int .i64 q.2.2, .int .i64 q.1]) ∧ nums t = q.2.1 ∧ Below w.heap.size w w'
set_option maxRecDepth 8000 in
set_option maxHeartbeats 1000000 in
theorem unpack20 {w : World} {v : Value} {zs : List Int} (h : Sk .u8 w v zs) (a : Int) (hz : zs.length ≤ 1000000000) : Calls Tryd.prog 12 #[v, .int .i64 a] w (UnpP20 w (Na.una zs a)) := by
  obtain ⟨ao, cap, rfl, hc1, hc2⟩ := h.shape
  by_cases h0 : a < 0
  · have e : Na.una zs a = (1, [], 0) := by unfold Na.una; rw [if_pos (.inl h0)]
    rw [e]
    have HF : Hid (UnpP20 w (1, [], 0) (.returned (.tuple #[.string ⟨#[]⟩, .int .i64 0, .int .i64 1])) w) := ⟨_, rfl, rfl, Below.refl _ _⟩
    clear h e
    go_enter Tryd.func12, Tryd.ntmps12
    go_wp2
    go_ret3
    exact unhide HF
  · by_cases h1 : (zs.length : Int) < a
    · have e : Na.una zs a = (1, [], 0) := by unfold Na.una; rw [if_pos (.inr h1)]
      rw [e]
      have HF : Hid (UnpP20 w (1, [], 0) (.returned (.tuple #[.string ⟨#[]⟩, .int .i64 0, .int .i64 1])) w) := ⟨_, rfl, rfl, Below.refl _ _⟩
      have L1 : a > (zs.length : Int) := h1
      clear h e
      go_enter Tryd.func12, Tryd.ntmps12
      go_wp2
      go_ret3
      exact unhide HF
    · obtain ⟨k, rfl⟩ : ∃ k : Nat, a = k := ⟨a.toNat, by omega⟩
      have hk : k ≤ zs.length := by omega
      have hq := Na.una_ups hk
      have hfi := Na.ups_fine (b := zs) (a := k) (fun x hx => fit_u8 (h.1 x hx)) hz
      have KR := hide (readLabels20 h k hk hz)
      have L1 : ¬ ((k : Int) > (zs.length : Int)) := h1
      generalize Na.una zs (k : Int) = q at *
      generalize Na.ups zs k [] = r at *
      obtain ⟨er, ls, n⟩ := r
      simp only at hq hfi
      have HFI := hide hfi
      have HQ := hide hq
      clear h hq hfi
      go_enter Tryd.func12, Tryd.ntmps12
      go_wp2_with fail
      refine (unhide KR).mono ?_
      rintro e w1 ⟨v1, rfl, o1, b1⟩
      have hq := unhide HQ
      clear KR HQ
      simp only at o1 ⊢
      by_cases hr : er = 0
      · subst hr
        rw [if_pos rfl] at hq
        obtain ⟨f1, f2⟩ := unhide HFI rfl
        have KJ := hide (join20 o1.sv f1 f2)
        have HB := hide b1
        clear HFI f1 f2 o1 b1
        by_cases hl : (Na.joi ls).length ≤ 253
        · rw [if_pos hl] at hq
          subst hq
          go_wp2_with fail
          refine (unhide KJ).mono ?_
          rintro e w2 ⟨t, rfl, ht, b2⟩
          have hts : t.size ≤ 253 := by rw [← nums_length, ht]; exact hl
          have L2 : ¬ ((t.size : Int) > 253) := by omega
          have HF : Hid (UnpP20 w (0, Na.joi ls, (n : Int)) (.returned (.tuple #[.string t, .int .i64 n, .int .i64 0])) w2) := ⟨t, rfl, ht, bthen (unhide HB) b2⟩
          clear KJ ht b2 hl HB
          go_wp2
          go_ret3
          exact unhide HF
        · rw [if_neg hl] at hq
          subst hq
          go_wp2_with fail
          refine (unhide KJ).mono ?_
          rintro e w2 ⟨t, rfl, ht, b2⟩
          have hts : ¬ t.size ≤ 253 := by rw [← nums_length, ht]; exact hl
          have L2 : ((t.size : Int) > 253) := by omega
          have HF : Hid (UnpP20 w (2, [], 0) (.returned (.tuple #[.string ⟨#[]⟩, .int .i64 0, .int .i64 2])) w2) := ⟨_, rfl, rfl, bthen (unhide HB) b2⟩
          clear KJ ht b2 hl HB
          go_wp2
          go_ret3
          exact unhide HF
      · rw [if_neg hr] at hq
        subst hq
        have hz9 : (er != 0) = true := by simpa using hr
        have HF : Hid (UnpP20 w (er, [], 0) (.returned (.tuple #[.string ⟨#[]⟩, .int .i64 0, .int .i64 er])) w1) := ⟨_, rfl, rfl, b1⟩
        clear HFI o1 b1 hr
        go_wp2
        go_ret3
        exact unhide HF
end Go.Proofs.YtcnmmghkjblemaaDoor
