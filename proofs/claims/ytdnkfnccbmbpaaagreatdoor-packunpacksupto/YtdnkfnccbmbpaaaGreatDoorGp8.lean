import Derived.Test.YtdnkfnccbmbpaaaGreatDoorMPg8
import Derived.Test.YtdnkfnccbmbpaaaGreatDoorGm8
import Derived.Test.YtdnkfnccbmbpaaaGreatDoorGv8
import Derived.Test.YtdnkfnccbmbpaaaGreatDoorGc8
/- The sum's four bytes; Pack. -/
namespace Go.Proofs.YtdnkfnccbmbpaaaGreatDoor
open Go.RowKit
open Wi

/-- One part, in a new row. -/
theorem pa_one (w : World) (v : Value) (l : List Int) (h : Sl w v l) : Pa (w.alloc (.cells #[v] 24)) (.slice (some ⟨w.heap.size, 0, none⟩) 1 1) [l] := by
  have hb : Below w.heap.size w (w.alloc (.cells #[v] 24)) := (Below.refl _ _).alloc (Nat.le_refl _) _
  refine ⟨by simp, .inr ⟨w.heap.size, 0, 1, rfl, by simp, fun i hi => ?_⟩⟩
  match i, hi with
  | 0, _ => exact ⟨v, by rw [World.cell?_alloc_at _ _ _ _ rfl]; rfl, h.below hb⟩
theorem sum_one (w : World) (v : Value) (l : List Int) (h : Sl w v l) :
    Calls Tryz.prog 27 #[.slice (some ⟨w.heap.size, 0, none⟩) 1 1] (w.alloc (.cells #[v] 24)) fun e w' => e = .returned (.int .u32 (Crc.sum l : Nat)) ∧ w' = w.alloc (.cells #[v] 24) := by
  have hp := sum_any _ [l] _ (pa_one w v l h) (by intro x hx; simp at hx; subst hx; exact h.1)
  have e : [l].flatten = l := by simp
  rw [e] at hp
  exact hp
/-- A new row of bytes. -/
theorem bytes_new (w : World) (B g n : Nat) (hg : g = w.heap.size) (zs : List Int) (C : Array Value) (hB : B ≤ w.heap.size) (hn : zs.length = n) (hC : C.toList = zs.map (Value.int .u8)) (hb : Byt zs) (hl : n ≤ 1000) : Own (w.alloc (.cells C 5)) B (.slice (some ⟨g, 0, none⟩) n n) zs := by
  subst hg; subst hn
  have hsz : C.size = zs.length := by rw [← Array.length_toList, hC, List.length_map]
  refine ⟨hb, by omega, by simp, .inr ⟨w.heap.size, zs.length, C, rfl, hB, ?_, Nat.le_refl _, by unfold maxLen; omega, by omega, ?_⟩⟩
  · show (w.heap.push _)[w.heap.size]? = _
    simp
  · rw [hC, List.take_of_length_le (by simp)]
theorem le4_byt (s : Nat) : Byt (Pk.le4 s) := by
  intro z hz
  simp only [Pk.le4, List.mem_cons, List.mem_nil_iff, or_false] at hz
  rcases hz with rfl | rfl | rfl | rfl <;> omega
set_option maxHeartbeats 1000000 in
theorem psum_any (v : Value) (zs : List Int) (w : World) (hs : Sl w v zs) : Calls Tryz.prog 15 #[v] w (WrB w (Pk.sum4 zs)) := by
  have hlt := Crc.sum_lt zs hs.1
  have K := hide (sum_one w v zs hs)
  obtain ⟨ao, cap, rfl, _, _⟩ := hs.shape
  have HE : Hid (∀ (W : World) (g : Nat) (C : Array Value), g = W.heap.size → w.heap.size ≤ W.heap.size → C.toList = (Pk.le4 (Crc.sum zs)).map (Value.int .u8) → Own (W.alloc (.cells C 5)) w.heap.size (.slice (some ⟨g, 0, none⟩) 4 4) (Pk.sum4 zs)) := fun W g C hg hW hC => bytes_new W _ g 4 hg _ C hW rfl hC (le4_byt _) (by omega)
  clear hs
  generalize Crc.sum zs = s at *
  generalize Pk.sum4 zs = ys at *
  go_enter Tryz.func15, Tryz.ntmps15
  go_wp2_with fail
  refine (unhide K).mono ?_
  rintro e w1 ⟨rfl, rfl⟩
  clear K
  go_wp2
  go_ret
  refine ⟨.slice (some ⟨w.heap.size + 1, 0, none⟩) 4 4, rfl, (unhide HE) _ _ _ (by simp) (by simp) ?_, ((Below.refl _ _).alloc (Nat.le_refl _) _).alloc (by simp) _⟩
  simp [Pk.le4]
  omega
end Go.Proofs.YtdnkfnccbmbpaaaGreatDoor
/- What a right record is, kind by kind: plain. -/
namespace Go.Proofs.YtdnkfnccbmbpaaaGreatDoor
open Cn

theorem name_four {b : ByteArray} (h : nameL b = true) : b.size = 4 := by
  unfold nameL at h
  split at h
  · next e =>
    have := congrArg List.length e
    rw [List.length_map, Array.length_toList] at this
    exact this
  · cases h
theorem no_bytes {b : ByteArray} (h : b.size = 0) : b = ⟨#[]⟩ := by
  apply ByteArray.ext
  exact Array.eq_empty_of_size_eq_zero h
theorem scal {c : Int} (h : scalar c = true) : 0 ≤ c ∧ c ≤ 1114111 := by
  unfold scalar at h
  have := of_decide_eq_true h
  omega
theorem list_scal {x : List Int} {a b : Nat} (h : list x a b = true) : (a ≤ x.length ∧ x.length ≤ b) ∧ ∀ c ∈ x, 0 ≤ c ∧ c ≤ 1114111 := by
  have := list_parts h
  exact ⟨this.1, fun c hc => scal (this.2 c hc)⟩
theorem nil_of {x : List Int} (h : x.length = 0) : x = [] := List.eq_nil_of_length_eq_zero h
theorem bare_parts {r : Rec} {n tl name other w : Bool} (h : bare r n tl name other w = true) : (n = false → r.n = 0) ∧ (tl = false → r.to = []) ∧ (name = false → r.name = ⟨#[]⟩) ∧ (other = false → r.other = ⟨#[]⟩) ∧ (w = false → r.wt = 0) := by
  simp only [bare, Bool.and_eq_true, Bool.or_eq_true, decide_eq_true_eq] at h
  obtain ⟨⟨⟨⟨h1, h2⟩, h3⟩, h4⟩, h5⟩ := h
  refine ⟨fun e => ?_, fun e => ?_, fun e => ?_, fun e => ?_, fun e => ?_⟩
  · subst e; simpa using h1
  · subst e; exact nil_of (by simpa using h2)
  · subst e; exact no_bytes (by simpa using h3)
  · subst e; exact no_bytes (by simpa using h4)
  · subst e; simpa using h5
theorem right_at1 {r : Rec} (h : right r = 0) (hk : r.kind = 1) : (0 ≤ r.lo ∧ r.lo ≤ r.hi ∧ r.hi ≤ 1114111) ∧ r.n = 0 ∧ r.to = [] ∧ r.name = ⟨#[]⟩ ∧ r.other = ⟨#[]⟩ ∧ r.wt = 0 := by
  have hf : ¬ fam r.kind = 0 := right_kind h
  unfold right at h
  rw [if_neg hf] at h
  rw [if_neg (by omega)] at h
  have h2 := if_zero h
  simp only [Bool.and_eq_true, decide_eq_true_eq] at h2
  obtain ⟨hs, h3⟩ := h2
  rw [if_pos (by omega)] at h3
  obtain ⟨a1, a2, a3, a4, a5⟩ := bare_parts h3
  exact ⟨hs, a1 rfl, a2 rfl, a3 rfl, a4 rfl, a5 rfl⟩
theorem right_at2 {r : Rec} (h : right r = 0) (hk : r.kind = 2) : (0 ≤ r.lo ∧ r.lo ≤ r.hi ∧ r.hi ≤ 1114111) ∧ r.n = 0 ∧ r.to = [] ∧ r.name = ⟨#[]⟩ ∧ r.other = ⟨#[]⟩ ∧ r.wt = 0 := by
  have hf : ¬ fam r.kind = 0 := right_kind h
  unfold right at h
  rw [if_neg hf] at h
  rw [if_neg (by omega)] at h
  have h2 := if_zero h
  simp only [Bool.and_eq_true, decide_eq_true_eq] at h2
  obtain ⟨hs, h3⟩ := h2
  rw [if_pos (by omega)] at h3
  obtain ⟨a1, a2, a3, a4, a5⟩ := bare_parts h3
  exact ⟨hs, a1 rfl, a2 rfl, a3 rfl, a4 rfl, a5 rfl⟩
theorem right_at11 {r : Rec} (h : right r = 0) (hk : r.kind = 11) : (0 ≤ r.lo ∧ r.lo ≤ r.hi ∧ r.hi ≤ 1114111) ∧ r.n = 0 ∧ r.to = [] ∧ r.name = ⟨#[]⟩ ∧ r.other = ⟨#[]⟩ ∧ r.wt = 0 := by
  have hf : ¬ fam r.kind = 0 := right_kind h
  unfold right at h
  rw [if_neg hf] at h
  rw [if_neg (by omega)] at h
  have h2 := if_zero h
  simp only [Bool.and_eq_true, decide_eq_true_eq] at h2
  obtain ⟨hs, h3⟩ := h2
  rw [if_pos (by omega)] at h3
  obtain ⟨a1, a2, a3, a4, a5⟩ := bare_parts h3
  exact ⟨hs, a1 rfl, a2 rfl, a3 rfl, a4 rfl, a5 rfl⟩
theorem right_at3 {r : Rec} (h : right r = 0) (hk : r.kind = 3) : (0 ≤ r.lo ∧ r.lo ≤ r.hi ∧ r.hi ≤ 1114111) ∧ r.n = 0 ∧ r.name = ⟨#[]⟩ ∧ r.other = ⟨#[]⟩ ∧ r.wt = 0 ∧ (1 ≤ r.to.length ∧ r.to.length ≤ 24) ∧ ∀ c ∈ r.to, 0 ≤ c ∧ c ≤ 1114111 := by
  have hf : ¬ fam r.kind = 0 := right_kind h
  unfold right at h
  rw [if_neg hf] at h
  rw [if_neg (by omega)] at h
  have h2 := if_zero h
  simp only [Bool.and_eq_true, decide_eq_true_eq] at h2
  obtain ⟨hs, h3⟩ := h2
  rw [if_neg (by omega)] at h3
  rw [if_pos (by omega)] at h3
  simp only [Bool.and_eq_true] at h3
  obtain ⟨a1, a2, a3, a4, a5⟩ := bare_parts h3.1
  exact ⟨hs, a1 rfl, a3 rfl, a4 rfl, a5 rfl, list_scal h3.2⟩
theorem right_at4 {r : Rec} (h : right r = 0) (hk : r.kind = 4) : (0 ≤ r.lo ∧ r.lo ≤ r.hi ∧ r.hi ≤ 1114111) ∧ r.name = ⟨#[]⟩ ∧ r.other = ⟨#[]⟩ ∧ r.wt = 0 ∧ (1 ≤ r.n ∧ r.n ≤ 64) ∧ r.to.length = 1 ∧ 0 ≤ r.to.getD 0 0 ∧ r.to.getD 0 0 ≤ 1114111 := by
  have hf : ¬ fam r.kind = 0 := right_kind h
  unfold right at h
  rw [if_neg hf] at h
  rw [if_neg (by omega)] at h
  have h2 := if_zero h
  simp only [Bool.and_eq_true, decide_eq_true_eq] at h2
  obtain ⟨hs, h3⟩ := h2
  rw [if_neg (by omega)] at h3
  rw [if_neg (by omega)] at h3
  rw [if_pos (by omega)] at h3
  simp only [Bool.and_eq_true, decide_eq_true_eq] at h3
  obtain ⟨⟨⟨b1, b2⟩, b3⟩, _⟩ := h3
  obtain ⟨a1, a2, a3, a4, a5⟩ := bare_parts b1
  obtain ⟨c1, c2⟩ := list_scal b3
  have hm : r.to.getD 0 0 ∈ r.to := by
    have : 0 < r.to.length := by omega
    simp [List.getD, this]
  exact ⟨hs, a3 rfl, a4 rfl, a5 rfl, b2, by omega, c2 _ hm⟩
theorem right_at5 {r : Rec} (h : right r = 0) (hk : r.kind = 5) : (0 ≤ r.lo ∧ r.lo ≤ 1114111) ∧ r.hi = r.lo ∧ r.n = 0 ∧ r.name = ⟨#[]⟩ ∧ r.other = ⟨#[]⟩ ∧ r.wt = 0 ∧ r.to.length ≤ 24 ∧ ∀ c ∈ r.to, 0 ≤ c ∧ c ≤ 1114111 := by
  have hf : ¬ fam r.kind = 0 := right_kind h
  unfold right at h
  rw [if_neg hf] at h
  rw [if_neg (by omega)] at h
  have h2 := if_zero h
  simp only [Bool.and_eq_true, decide_eq_true_eq] at h2
  obtain ⟨hs, h3⟩ := h2
  rw [if_neg (by omega)] at h3
  rw [if_neg (by omega)] at h3
  rw [if_neg (by omega)] at h3
  rw [if_pos (by omega)] at h3
  simp only [Bool.and_eq_true, decide_eq_true_eq] at h3
  obtain ⟨⟨⟨b1, b2⟩, b3⟩, b4⟩ := h3
  obtain ⟨a1, a2, a3, a4, a5⟩ := bare_parts b3
  obtain ⟨c1, c2⟩ := list_scal b4
  exact ⟨by omega, by omega, a1 rfl, a3 rfl, a4 rfl, a5 rfl, by omega, c2⟩
theorem right_at13 {r : Rec} (h : right r = 0) (hk : r.kind = 13) : (0 ≤ r.lo ∧ r.lo ≤ 1114111) ∧ r.hi = r.lo ∧ r.n = 0 ∧ r.name = ⟨#[]⟩ ∧ r.other = ⟨#[]⟩ ∧ r.wt = 0 ∧ r.to.length ≤ 24 ∧ ∀ c ∈ r.to, 0 ≤ c ∧ c ≤ 1114111 := by
  have hf : ¬ fam r.kind = 0 := right_kind h
  unfold right at h
  rw [if_neg hf] at h
  rw [if_neg (by omega)] at h
  have h2 := if_zero h
  simp only [Bool.and_eq_true, decide_eq_true_eq] at h2
  obtain ⟨hs, h3⟩ := h2
  rw [if_neg (by omega)] at h3
  rw [if_neg (by omega)] at h3
  rw [if_neg (by omega)] at h3
  rw [if_neg (by omega)] at h3
  rw [if_pos (by omega)] at h3
  simp only [Bool.and_eq_true, decide_eq_true_eq] at h3
  obtain ⟨⟨⟨b1, b2⟩, b3⟩, b4⟩ := h3
  obtain ⟨a1, a2, a3, a4, a5⟩ := bare_parts b3
  obtain ⟨c1, c2⟩ := list_scal b4
  exact ⟨by omega, by omega, a1 rfl, a3 rfl, a4 rfl, a5 rfl, by omega, c2⟩
theorem right_at7 {r : Rec} (h : right r = 0) (hk : r.kind = 7) : (0 ≤ r.lo ∧ r.lo ≤ 1114111) ∧ r.hi = r.lo ∧ r.n = 0 ∧ r.name = ⟨#[]⟩ ∧ r.other = ⟨#[]⟩ ∧ r.wt = 0 ∧ r.to.length ≤ 24 ∧ ∀ c ∈ r.to, 0 ≤ c ∧ c ≤ 1114111 := by
  have hf : ¬ fam r.kind = 0 := right_kind h
  unfold right at h
  rw [if_neg hf] at h
  rw [if_neg (by omega)] at h
  have h2 := if_zero h
  simp only [Bool.and_eq_true, decide_eq_true_eq] at h2
  obtain ⟨hs, h3⟩ := h2
  rw [if_neg (by omega)] at h3
  rw [if_neg (by omega)] at h3
  rw [if_neg (by omega)] at h3
  rw [if_neg (by omega)] at h3
  rw [if_neg (by omega)] at h3
  rw [if_neg (by omega)] at h3
  rw [if_pos (by omega)] at h3
  simp only [Bool.and_eq_true, decide_eq_true_eq] at h3
  obtain ⟨⟨⟨b1, b2⟩, b3⟩, b4⟩ := h3
  obtain ⟨a1, a2, a3, a4, a5⟩ := bare_parts b3
  obtain ⟨c1, c2⟩ := list_scal b4
  exact ⟨by omega, by omega, a1 rfl, a3 rfl, a4 rfl, a5 rfl, by omega, c2⟩
theorem right_at8 {r : Rec} (h : right r = 0) (hk : r.kind = 8) : (0 ≤ r.lo ∧ r.lo ≤ 1114111) ∧ r.hi = r.lo ∧ r.n = 0 ∧ r.name = ⟨#[]⟩ ∧ r.other = ⟨#[]⟩ ∧ r.wt = 0 ∧ r.to.length ≤ 24 ∧ ∀ c ∈ r.to, 0 ≤ c ∧ c ≤ 1114111 := by
  have hf : ¬ fam r.kind = 0 := right_kind h
  unfold right at h
  rw [if_neg hf] at h
  rw [if_neg (by omega)] at h
  have h2 := if_zero h
  simp only [Bool.and_eq_true, decide_eq_true_eq] at h2
  obtain ⟨hs, h3⟩ := h2
  rw [if_neg (by omega)] at h3
  rw [if_neg (by omega)] at h3
  rw [if_neg (by omega)] at h3
  rw [if_neg (by omega)] at h3
  rw [if_neg (by omega)] at h3
  rw [if_neg (by omega)] at h3
  rw [if_neg (by omega)] at h3
  rw [if_pos (by omega)] at h3
  simp only [Bool.and_eq_true, decide_eq_true_eq] at h3
  obtain ⟨⟨⟨b1, b2⟩, b3⟩, b4⟩ := h3
  obtain ⟨a1, a2, a3, a4, a5⟩ := bare_parts b3
  obtain ⟨c1, c2⟩ := list_scal b4
  exact ⟨by omega, by omega, a1 rfl, a3 rfl, a4 rfl, a5 rfl, by omega, c2⟩
theorem right_at6 {r : Rec} (h : right r = 0) (hk : r.kind = 6) : (0 ≤ r.lo ∧ r.lo ≤ r.hi ∧ r.hi ≤ 1114111) ∧ r.to = [] ∧ r.name = ⟨#[]⟩ ∧ r.other = ⟨#[]⟩ ∧ r.wt = 0 ∧ 0 ≤ r.n ∧ r.n ≤ 254 := by
  have hf : ¬ fam r.kind = 0 := right_kind h
  unfold right at h
  rw [if_neg hf] at h
  rw [if_neg (by omega)] at h
  have h2 := if_zero h
  simp only [Bool.and_eq_true, decide_eq_true_eq] at h2
  obtain ⟨hs, h3⟩ := h2
  rw [if_neg (by omega)] at h3
  rw [if_neg (by omega)] at h3
  rw [if_neg (by omega)] at h3
  rw [if_neg (by omega)] at h3
  rw [if_neg (by omega)] at h3
  rw [if_pos (by omega)] at h3
  simp only [Bool.and_eq_true, decide_eq_true_eq] at h3
  obtain ⟨a1, a2, a3, a4, a5⟩ := bare_parts h3.1
  exact ⟨hs, a2 rfl, a3 rfl, a4 rfl, a5 rfl, by omega, by omega⟩
theorem right_at9 {r : Rec} (h : right r = 0) (hk : r.kind = 9) : (0 ≤ r.lo ∧ r.lo ≤ r.hi ∧ r.hi ≤ 1114111) ∧ r.to = [] ∧ r.name = ⟨#[]⟩ ∧ r.other = ⟨#[]⟩ ∧ r.wt = 0 ∧ 0 ≤ r.n ∧ r.n ≤ 254 := by
  have hf : ¬ fam r.kind = 0 := right_kind h
  unfold right at h
  rw [if_neg hf] at h
  rw [if_neg (by omega)] at h
  have h2 := if_zero h
  simp only [Bool.and_eq_true, decide_eq_true_eq] at h2
  obtain ⟨hs, h3⟩ := h2
  rw [if_neg (by omega)] at h3
  rw [if_neg (by omega)] at h3
  rw [if_neg (by omega)] at h3
  rw [if_neg (by omega)] at h3
  rw [if_neg (by omega)] at h3
  rw [if_neg (by omega)] at h3
  rw [if_neg (by omega)] at h3
  rw [if_neg (by omega)] at h3
  rw [if_pos (by omega)] at h3
  simp only [Bool.and_eq_true, decide_eq_true_eq] at h3
  obtain ⟨a1, a2, a3, a4, a5⟩ := bare_parts h3.1
  exact ⟨hs, a2 rfl, a3 rfl, a4 rfl, a5 rfl, by omega, by omega⟩
theorem right_at10 {r : Rec} (h : right r = 0) (hk : r.kind = 10) : (0 ≤ r.lo ∧ r.lo ≤ r.hi ∧ r.hi ≤ 1114111) ∧ r.to = [] ∧ r.name = ⟨#[]⟩ ∧ r.other = ⟨#[]⟩ ∧ r.wt = 0 ∧ 0 ≤ r.n ∧ r.n ≤ 254 := by
  have hf : ¬ fam r.kind = 0 := right_kind h
  unfold right at h
  rw [if_neg hf] at h
  rw [if_neg (by omega)] at h
  have h2 := if_zero h
  simp only [Bool.and_eq_true, decide_eq_true_eq] at h2
  obtain ⟨hs, h3⟩ := h2
  rw [if_neg (by omega)] at h3
  rw [if_neg (by omega)] at h3
  rw [if_neg (by omega)] at h3
  rw [if_neg (by omega)] at h3
  rw [if_neg (by omega)] at h3
  rw [if_neg (by omega)] at h3
  rw [if_neg (by omega)] at h3
  rw [if_neg (by omega)] at h3
  rw [if_neg (by omega)] at h3
  rw [if_pos (by omega)] at h3
  simp only [Bool.and_eq_true, decide_eq_true_eq] at h3
  obtain ⟨a1, a2, a3, a4, a5⟩ := bare_parts h3.1
  exact ⟨hs, a2 rfl, a3 rfl, a4 rfl, a5 rfl, by omega, by omega⟩
theorem right_at12 {r : Rec} (h : right r = 0) (hk : r.kind = 12) : (0 ≤ r.lo ∧ r.lo ≤ r.hi ∧ r.hi ≤ 1114111) ∧ r.n = 0 ∧ r.to = [] ∧ r.other = ⟨#[]⟩ ∧ r.wt = 0 ∧ r.name.size = 4 := by
  have hf : ¬ fam r.kind = 0 := right_kind h
  unfold right at h
  rw [if_neg hf] at h
  rw [if_neg (by omega)] at h
  have h2 := if_zero h
  simp only [Bool.and_eq_true, decide_eq_true_eq] at h2
  obtain ⟨hs, h3⟩ := h2
  rw [if_neg (by omega)] at h3
  rw [if_neg (by omega)] at h3
  rw [if_neg (by omega)] at h3
  rw [if_neg (by omega)] at h3
  rw [if_neg (by omega)] at h3
  rw [if_neg (by omega)] at h3
  rw [if_neg (by omega)] at h3
  rw [if_neg (by omega)] at h3
  rw [if_neg (by omega)] at h3
  rw [if_neg (by omega)] at h3
  rw [if_pos (by omega)] at h3
  simp only [Bool.and_eq_true] at h3
  obtain ⟨a1, a2, a3, a4, a5⟩ := bare_parts h3.1
  exact ⟨hs, a1 rfl, a2 rfl, a4 rfl, a5 rfl, name_four h3.2⟩
theorem right_at14 {r : Rec} (h : right r = 0) (hk : r.kind = 14) : (0 ≤ r.lo ∧ r.lo ≤ r.hi ∧ r.hi ≤ 1114111) ∧ r.n = 0 ∧ r.to = [] ∧ r.name = ⟨#[]⟩ ∧ r.other = ⟨#[]⟩ ∧ r.wt ≤ 9218868437227405312 := by
  have hf : ¬ fam r.kind = 0 := right_kind h
  unfold right at h
  rw [if_neg hf] at h
  rw [if_neg (by omega)] at h
  have h2 := if_zero h
  simp only [Bool.and_eq_true, decide_eq_true_eq] at h2
  obtain ⟨hs, h3⟩ := h2
  rw [if_neg (by omega)] at h3
  rw [if_neg (by omega)] at h3
  rw [if_neg (by omega)] at h3
  rw [if_neg (by omega)] at h3
  rw [if_neg (by omega)] at h3
  rw [if_neg (by omega)] at h3
  rw [if_neg (by omega)] at h3
  rw [if_neg (by omega)] at h3
  rw [if_neg (by omega)] at h3
  rw [if_neg (by omega)] at h3
  rw [if_neg (by omega)] at h3
  simp only [Bool.and_eq_true] at h3
  obtain ⟨a1, a2, a3, a4, a5⟩ := bare_parts h3.1
  exact ⟨hs, a1 rfl, a2 rfl, a3 rfl, a4 rfl, of_decide_eq_true h3.2⟩
theorem right_at15 {r : Rec} (h : right r = 0) (hk : r.kind = 15) : r.lo = 0 ∧ r.hi = 0 ∧ r.n = 0 ∧ r.to = [] ∧ r.name.size = 4 ∧ r.other.size = 4 ∧ r.wt ≤ 9218868437227405312 := by
  have hf : ¬ fam r.kind = 0 := right_kind h
  unfold right at h
  rw [if_neg hf] at h
  rw [if_pos hk] at h
  obtain ⟨b1, b2, b3, b4, b5, _, b6⟩ := if_zero h
  obtain ⟨a1, a2, a3, a4, a5⟩ := bare_parts b3
  exact ⟨b1, b2, a1 rfl, a2 rfl, name_four b4, name_four b5, of_decide_eq_true b6⟩
theorem right_rok {r : Rec} (h : right r = 0) : Rok r := by
  have hf := right_kind h
  refine ⟨hf, ?_⟩
  rcases kinds15 hf with hk | hk | hk | hk | hk | hk | hk | hk | hk | hk | hk | hk | hk | hk | hk
  · obtain ⟨h1, _⟩ := right_at1 h hk
    have e : Pk.form r.kind = [0, 1] := by rw [hk]; rfl
    rw [e]
    intro f hm
    simp only [List.mem_cons, List.mem_nil_iff, or_false] at hm
    rcases hm with rfl | rfl
    · exact ⟨by omega, by omega⟩
    · exact ⟨by omega, by omega, by omega⟩
  · obtain ⟨h1, _⟩ := right_at2 h hk
    have e : Pk.form r.kind = [0, 1] := by rw [hk]; rfl
    rw [e]
    intro f hm
    simp only [List.mem_cons, List.mem_nil_iff, or_false] at hm
    rcases hm with rfl | rfl
    · exact ⟨by omega, by omega⟩
    · exact ⟨by omega, by omega, by omega⟩
  · obtain ⟨h1, _, _, _, _, h6, _⟩ := right_at3 h hk
    have e : Pk.form r.kind = [0, 1, 7] := by rw [hk]; rfl
    rw [e]
    intro f hm
    simp only [List.mem_cons, List.mem_nil_iff, or_false] at hm
    rcases hm with rfl | rfl | rfl
    · exact ⟨by omega, by omega⟩
    · exact ⟨by omega, by omega, by omega⟩
    · exact (show r.to.length ≤ 1000 by omega)
  · obtain ⟨h1, _, _, _, h5, h6, h7, h8⟩ := right_at4 h hk
    have e : Pk.form r.kind = [0, 1, 3, 4] := by rw [hk]; rfl
    rw [e]
    intro f hm
    simp only [List.mem_cons, List.mem_nil_iff, or_false] at hm
    rcases hm with rfl | rfl | rfl | rfl
    · exact ⟨by omega, by omega⟩
    · exact ⟨by omega, by omega, by omega⟩
    · exact ⟨by omega, by omega⟩
    · exact ⟨by omega, by omega, by omega⟩
  · obtain ⟨h1, h2, _, _, _, _, h7, _⟩ := right_at5 h hk
    have e : Pk.form r.kind = [2, 7] := by rw [hk]; rfl
    rw [e]
    intro f hm
    simp only [List.mem_cons, List.mem_nil_iff, or_false] at hm
    rcases hm with rfl | rfl
    · exact ⟨by omega, by omega⟩
    · exact (show r.to.length ≤ 1000 by omega)
  · obtain ⟨h1, _, _, _, _, h6, h7⟩ := right_at6 h hk
    have e : Pk.form r.kind = [0, 1, 3] := by rw [hk]; rfl
    rw [e]
    intro f hm
    simp only [List.mem_cons, List.mem_nil_iff, or_false] at hm
    rcases hm with rfl | rfl | rfl
    · exact ⟨by omega, by omega⟩
    · exact ⟨by omega, by omega, by omega⟩
    · exact ⟨by omega, by omega⟩
  · obtain ⟨h1, h2, _, _, _, _, h7, _⟩ := right_at7 h hk
    have e : Pk.form r.kind = [2, 7] := by rw [hk]; rfl
    rw [e]
    intro f hm
    simp only [List.mem_cons, List.mem_nil_iff, or_false] at hm
    rcases hm with rfl | rfl
    · exact ⟨by omega, by omega⟩
    · exact (show r.to.length ≤ 1000 by omega)
  · obtain ⟨h1, h2, _, _, _, _, h7, _⟩ := right_at8 h hk
    have e : Pk.form r.kind = [2, 7] := by rw [hk]; rfl
    rw [e]
    intro f hm
    simp only [List.mem_cons, List.mem_nil_iff, or_false] at hm
    rcases hm with rfl | rfl
    · exact ⟨by omega, by omega⟩
    · exact (show r.to.length ≤ 1000 by omega)
  · obtain ⟨h1, _, _, _, _, h6, h7⟩ := right_at9 h hk
    have e : Pk.form r.kind = [0, 1, 3] := by rw [hk]; rfl
    rw [e]
    intro f hm
    simp only [List.mem_cons, List.mem_nil_iff, or_false] at hm
    rcases hm with rfl | rfl | rfl
    · exact ⟨by omega, by omega⟩
    · exact ⟨by omega, by omega, by omega⟩
    · exact ⟨by omega, by omega⟩
  · obtain ⟨h1, _, _, _, _, h6, h7⟩ := right_at10 h hk
    have e : Pk.form r.kind = [0, 1, 3] := by rw [hk]; rfl
    rw [e]
    intro f hm
    simp only [List.mem_cons, List.mem_nil_iff, or_false] at hm
    rcases hm with rfl | rfl | rfl
    · exact ⟨by omega, by omega⟩
    · exact ⟨by omega, by omega, by omega⟩
    · exact ⟨by omega, by omega⟩
  · obtain ⟨h1, _⟩ := right_at11 h hk
    have e : Pk.form r.kind = [0, 1] := by rw [hk]; rfl
    rw [e]
    intro f hm
    simp only [List.mem_cons, List.mem_nil_iff, or_false] at hm
    rcases hm with rfl | rfl
    · exact ⟨by omega, by omega⟩
    · exact ⟨by omega, by omega, by omega⟩
  · obtain ⟨h1, _, _, _, _, h6⟩ := right_at12 h hk
    have e : Pk.form r.kind = [0, 1, 5] := by rw [hk]; rfl
    rw [e]
    intro f hm
    simp only [List.mem_cons, List.mem_nil_iff, or_false] at hm
    rcases hm with rfl | rfl | rfl
    · exact ⟨by omega, by omega⟩
    · exact ⟨by omega, by omega, by omega⟩
    · exact (show r.name.size ≤ 1000 by omega)
  · obtain ⟨h1, h2, _, _, _, _, h7, _⟩ := right_at13 h hk
    have e : Pk.form r.kind = [2, 7] := by rw [hk]; rfl
    rw [e]
    intro f hm
    simp only [List.mem_cons, List.mem_nil_iff, or_false] at hm
    rcases hm with rfl | rfl
    · exact ⟨by omega, by omega⟩
    · exact (show r.to.length ≤ 1000 by omega)
  · obtain ⟨h1, _⟩ := right_at14 h hk
    have e : Pk.form r.kind = [0, 1, 8] := by rw [hk]; rfl
    rw [e]
    intro f hm
    simp only [List.mem_cons, List.mem_nil_iff, or_false] at hm
    rcases hm with rfl | rfl | rfl
    · exact ⟨by omega, by omega⟩
    · exact ⟨by omega, by omega, by omega⟩
    · exact trivial
  · obtain ⟨_, _, _, _, h5, h6, _⟩ := right_at15 h hk
    have e : Pk.form r.kind = [5, 6, 8] := by rw [hk]; rfl
    rw [e]
    intro f hm
    simp only [List.mem_cons, List.mem_nil_iff, or_false] at hm
    rcases hm with rfl | rfl | rfl
    · exact (show r.name.size ≤ 1000 by omega)
    · exact (show r.other.size ≤ 1000 by omega)
    · exact trivial
end Go.Proofs.YtdnkfnccbmbpaaaGreatDoor
/- Pack. -/
namespace Go.Proofs.YtdnkfnccbmbpaaaGreatDoor
open Go.RowKit
open Wi

/-- What Pack answers. -/
def PackB (w : World) (r : List Int × Nat × Int) (e : Ending) (w' : World) : Prop := ∃ v, e = .returned (.tuple #[v, .int .i64 (r.2.1 : Int), .int .i64 r.2.2]) ∧ Own w' w.heap.size v r.1 ∧ Below w.heap.size w w'
theorem Own.nil (w : World) (B : Nat) : Own w B (.slice none 0 0) [] := ⟨Byt.nil, by simp, World.ownsRow_nil _ _ _ _⟩
theorem sum4_len (zs : List Int) : (Pk.sum4 zs).length = 4 := rfl
set_option maxRecDepth 8000 in
set_option maxHeartbeats 2000000 in
theorem pack_any (v : Value) (rs : List Rec) (w : World) (hg : Glob w) (hv : Rcs w v rs) : Calls Tryz.prog 6 #[v] w (PackB w (Pk.pack rs)) := by
  obtain ⟨i0, hi, hz0, hz1, hz2⟩ := info_parts Tryz.info5
  have K := hide (check_any v rs w hg hv)
  have HV := hide hv
  obtain ⟨ao, cap, rfl, _, _⟩ := hv.shape
  by_cases hc : (Cn.check6 rs).2 = 0
  · have hall := Cn.check6_all hc
    have hz := Cn.check6_zero hc
    have hrok : ∀ r ∈ rs, Rok r := fun r hr => right_rok (hall.2 r hr)
    have hl := hall.1
    have hbl : (Pk.body rs).length ≤ 500000000 := by
      have h1 := rbs_len rs hrok
      have h3 := uint_len rs.length
      have h4 : Pk.head.length = 5 := rfl
      unfold Pk.body
      rw [List.length_append, List.length_append, h4]; omega
    have KW := hide (fun W hW => written_any (.slice ao rs.length cap) rs W hW hl hrok)
    have KS := hide (fun v zs W h => psum_any v zs W h)
    rw [hz] at K
    by_cases hlong : 262144 < (Pk.body rs).length + 4
    · have hp : Pk.pack rs = ([], 0, 2) := by unfold Pk.pack; rw [if_neg (by simpa using hc), if_pos hlong]
      rw [hp]
      clear hp hv hall hz hrok hc hg
      generalize Pk.body rs = bs at *
      go_enter Tryz.func6, Tryz.ntmps6
      go_wp2_with fail
      refine (unhide K).mono ?_
      rintro e1 w1 ⟨rfl, hb1⟩
      have KW2 := hide ((unhide KW) w1 ((unhide HV).below hb1))
      clear KW K HV
      go_wp2_with fail
      refine (unhide KW2).mono ?_
      rintro e2 w2 ⟨v2, rfl, hown, hb2⟩
      have HF : PackB w ([], 0, 2) (.returned (.tuple #[.slice none 0 0, .int .i64 0, .int .i64 2])) w2 := ⟨_, rfl, Own.nil _ _, bthen hb1 hb2⟩
      obtain ⟨ao2, cap2, rfl, _, _⟩ := hown.sl.shape
      clear KW2 hown hb1 hb2 KS
      have hlong2 : (262144 : Int) < (bs.length : Int) + 4 := by omega
      have hbl2 : (bs.length : Int) ≤ 500000000 := by omega
      clear hlong hbl
      generalize bs.length = m at *
      go_wp2
      go_ret3
      exact HF
    · have hp : Pk.pack rs = (Pk.body rs ++ Pk.sum4 (Pk.body rs), 0, 0) := by unfold Pk.pack; rw [if_neg (by simpa using hc), if_neg hlong]
      rw [hp]
      clear hp hv hall hz hrok hc hg
      generalize Pk.body rs = bs at *
      go_enter Tryz.func6, Tryz.ntmps6
      go_wp2_with fail
      refine (unhide K).mono ?_
      rintro e1 w1 ⟨rfl, hb1⟩
      have KW2 := hide ((unhide KW) w1 ((unhide HV).below hb1))
      clear KW K HV
      go_wp2_with fail
      refine (unhide KW2).mono ?_
      rintro e2 w2 ⟨v2, rfl, hown, hb2⟩
      have KS2 := hide ((unhide KS) v2 bs w2 hown.sl)
      have hs4 := sum4_len bs
      obtain ⟨ao2, cap2, rfl, _, _⟩ := hown.sl.shape
      clear KW2 KS
      have HL2 : Hid ((bs.length : Int) + 4 ≤ 262144) := by show (bs.length : Int) + 4 ≤ 262144; omega
      have hw4 : IntKind.i64.wrap ((bs.length : Int) + 4) = (bs.length : Int) + 4 := by rw [IntKind.wrap_i64]; omega
      have hd : decide ((262144 : Int) < (bs.length : Int) + 4) = false := by rw [decide_eq_false_iff_not]; omega
      have HBL := hide hbl
      have HS4 := hide hs4
      clear hlong hbl hs4
      generalize Pk.sum4 bs = ss at *
      go_wp2_with fail
      refine (unhide KS2).mono ?_
      rintro e3 w3 ⟨v3, rfl, hown3, hb3⟩
      have hs4 := unhide HS4
      have hlong2 := unhide HL2
      clear HS4 HL2 hd hw4
      have hB2 : Below w.heap.size w w2 := bthen hb1 hb2
      have hm := (hown.below hb3).lower hb1.size
      have hsz : w.heap.size ≤ w3.heap.size := (bthen hB2 hb3).size
      have HMORE : Hid (∀ v4 w4, w4.ownsRow w.heap.size 5 1 v4 (bs.length + 4) (bs.map (Value.int .u8) ++ ss.map (Value.int .u8)) → w3.grownBy w4 (Value.slice ao2 bs.length cap2).ownBlock → PackB w (bs ++ ss, 0, 0) (.returned (.tuple #[v4, .int .i64 0, .int .i64 0])) w4) := fun v4 w4 hr hg =>
        ⟨v4, rfl, ⟨hown.1.append hown3.1, by have := unhide HBL; rw [List.length_append]; omega, by rw [List.length_append, List.map_append, hs4]; exact hr⟩, (bthen hB2 hb3).grown hg hsz (fun g hg' => (hm.2.2.lt g hg').1)⟩
      rcases hown3.sl.src with ⟨hnil, _⟩ | ⟨ad3, cap3, rfl, hsrc⟩
      · rw [hnil] at hs4; simp at hs4
      have HS := hide hsrc
      have H1 := hide (ints_one .u8 ss)
      have hmp : (ss.map (Value.int .u8)).length = 4 := by rw [List.length_map, hs4]
      have HM := hide hm.2.2
      rw [hs4]
      clear KS2 hown hown3 hsrc hm hB2 hb1 hb2 hb3 hs4
      generalize ss.map (Value.int .u8) = us at *
      go_wp2_with (at_builtin; refine wpList_append_own _ rfl (.tmp 23) (.tmp 25) 24 rfl w.heap.size 5 i0 (.int .u8 0) 1 1 Tryz.underlying24 hi hz0 hz1 hz2 rfl (by decide) _ _ _ rfl (unhide HM) ad3 4 cap3 us rfl (by rw [hmp]) (unhide HS) (unhide H1) (by unfold maxLen; omega) (by omega) (by omega) ?_)
      intro v4 w4 hr4 hg4 _
      have R := (unhide HMORE) v4 w4 hr4 hg4
      clear HMORE HM HS H1 hr4 hg4
      go_wp2
      go_ret3
      exact R
  · have hp : Pk.pack rs = ([], (Cn.check6 rs).1, (Cn.check6 rs).2) := by unfold Pk.pack; rw [if_pos (by simpa using hc)]
    rw [hp]
    have hq : ((Cn.check6 rs).2 != 0) = true := by simpa using hc
    clear hp hc hg hv HV
    generalize Cn.check6 rs = q at *
    go_enter Tryz.func6, Tryz.ntmps6
    go_wp2_with fail
    refine (unhide K).mono ?_
    rintro e1 w1 ⟨rfl, hb1⟩
    have HF : PackB w ([], q.1, q.2) (.returned (.tuple #[.slice none 0 0, .int .i64 (q.1 : Int), .int .i64 q.2])) w1 := ⟨_, rfl, Own.nil _ _, hb1⟩
    clear K hb1
    go_wp2
    go_ret3
    exact HF
end Go.Proofs.YtdnkfnccbmbpaaaGreatDoor
