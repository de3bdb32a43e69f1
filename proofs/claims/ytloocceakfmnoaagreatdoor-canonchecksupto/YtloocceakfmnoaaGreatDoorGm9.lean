import Derived.Test.YtloocceakfmnoaaGreatDoorMRn7
/- The contracts of small functions of the document's Check. -/
namespace Go.Proofs.YtloocceakfmnoaaGreatDoor
open Go.RowKit

theorem refJl_any (c : Int) (w : World) (h : Rune c) : Calls Tryz.prog 88 #[.int .i32 c] w fun e w' => e = .returned (.bool (Cn.jl c)) ∧ w' = w := by
  obtain ⟨h1, h2⟩ := h
  unfold Cn.jl
  by_cases a1 : 4352 ≤ c
  · by_cases a2 : c ≤ 4370
    · rw [decide_eq_true ⟨a1, a2⟩]
      go_enter Tryz.func88, Tryz.ntmps88
      go_wp2
      go_ret
      exact ⟨rfl, rfl⟩
    · rw [decide_eq_false (fun h => a2 h.2)]
      go_enter Tryz.func88, Tryz.ntmps88
      go_wp2
      go_ret
      exact ⟨rfl, rfl⟩
  · rw [decide_eq_false (fun h => a1 h.1)]
    go_enter Tryz.func88, Tryz.ntmps88
    go_wp2
    go_ret
    exact ⟨rfl, rfl⟩
theorem refJv_any (c : Int) (w : World) (h : Rune c) : Calls Tryz.prog 89 #[.int .i32 c] w fun e w' => e = .returned (.bool (Cn.jv c)) ∧ w' = w := by
  obtain ⟨h1, h2⟩ := h
  unfold Cn.jv
  by_cases a1 : 4449 ≤ c
  · by_cases a2 : c ≤ 4469
    · rw [decide_eq_true ⟨a1, a2⟩]
      go_enter Tryz.func89, Tryz.ntmps89
      go_wp2
      go_ret
      exact ⟨rfl, rfl⟩
    · rw [decide_eq_false (fun h => a2 h.2)]
      go_enter Tryz.func89, Tryz.ntmps89
      go_wp2
      go_ret
      exact ⟨rfl, rfl⟩
  · rw [decide_eq_false (fun h => a1 h.1)]
    go_enter Tryz.func89, Tryz.ntmps89
    go_wp2
    go_ret
    exact ⟨rfl, rfl⟩
theorem refJt_any (c : Int) (w : World) (h : Rune c) : Calls Tryz.prog 91 #[.int .i32 c] w fun e w' => e = .returned (.bool (Cn.jt c)) ∧ w' = w := by
  obtain ⟨h1, h2⟩ := h
  unfold Cn.jt
  by_cases a1 : 4520 ≤ c
  · by_cases a2 : c ≤ 4546
    · rw [decide_eq_true ⟨a1, a2⟩]
      go_enter Tryz.func91, Tryz.ntmps91
      go_wp2
      go_ret
      exact ⟨rfl, rfl⟩
    · rw [decide_eq_false (fun h => a2 h.2)]
      go_enter Tryz.func91, Tryz.ntmps91
      go_wp2
      go_ret
      exact ⟨rfl, rfl⟩
  · rw [decide_eq_false (fun h => a1 h.1)]
    go_enter Tryz.func91, Tryz.ntmps91
    go_wp2
    go_ret
    exact ⟨rfl, rfl⟩
theorem refCovers_any (r : Rec) (vt : Value) (lo hi : Int) (w : World) (hf : RecFit r) (hlo : I64 lo) (hhi : I64 hi) : Calls Tryz.prog 87 #[recV r vt, .int .i64 lo, .int .i64 hi] w (BoolB w (Cn.covers r lo hi)) := by
  have hb : ∀ o, Below w.heap.size w (w.alloc o) := fun o => (Below.refl _ _).alloc (Nat.le_refl _) o
  have HB := hide hb
  clear hb
  obtain ⟨l0, l1⟩ := hlo
  obtain ⟨g0, g1⟩ := hhi
  obtain ⟨e0, e1⟩ := hf.lo
  obtain ⟨f0, f1⟩ := hf.hi
  clear hf
  unfold Cn.covers recV
  by_cases a1 : r.lo ≤ hi
  · by_cases a2 : lo ≤ r.hi
    · rw [decide_eq_true ⟨a1, a2⟩]
      go_enter Tryz.func87, Tryz.ntmps87
      go_wp2
      go_ret
      exact ⟨rfl, (unhide HB) _⟩
    · rw [decide_eq_false (fun h => a2 h.2)]
      go_enter Tryz.func87, Tryz.ntmps87
      go_wp2
      go_ret
      exact ⟨rfl, (unhide HB) _⟩
  · rw [decide_eq_false (fun h => a1 h.1)]
    go_enter Tryz.func87, Tryz.ntmps87
    go_wp2
    go_ret
    exact ⟨rfl, (unhide HB) _⟩
theorem refPlain_any (v : Value) (rs : List Rec) (c : Int) (w : World) (hv : Rcs w v rs) (hc : Rune c) : Calls Tryz.prog 51 #[v, .int .i32 c] w (BoolB w (Cn.plain rs c)) := by
  have K := hide (refFind_any v rs 1 c w hv (by unfold I64; omega) hc)
  obtain ⟨c0, c1⟩ := hc
  rcases hit_at hv 1 c with ⟨h1, h2⟩ | ⟨k, b, off, cap, h1, hkl, h2, rfl, hl, hm, hr, hf⟩
  · have hcl : Cn.plain rs c = false := by unfold Cn.plain; rw [h2]
    rw [hcl]
    rw [h1] at K
    obtain ⟨ao, cap, rfl, _, _⟩ := hv.shape
    clear hv h1 h2 hcl
    go_enter Tryz.func51, Tryz.ntmps51
    go_wp2_with fail
    refine (unhide K).mono ?_
    rintro e w1 ⟨rfl, hb⟩
    have HF : BoolB w false (.returned (.bool false)) w1 := ⟨rfl, hb⟩
    clear K hb
    go_wp2
    go_ret
    exact HF
  · have hcl : Cn.plain rs c = decide ((rs.getD k Cn.none).kind = 1) := by unfold Cn.plain; rw [h2]
    rw [hcl]
    rw [h1] at K
    have HR := hide hr
    have hlen := hv.1
    clear hv h1 h2 hcl hr hf
    generalize rs.getD k Cn.none = r at *
    by_cases hk1 : r.kind = 1
    · rw [decide_eq_true hk1]
      go_enter Tryz.func51, Tryz.ntmps51
      go_wp2_with fail
      refine (unhide K).mono ?_
      rintro e w1 ⟨rfl, hb⟩
      have x0 := ((unhide HR).below hb).kind
      rw [hk1] at x0
      have HF : BoolB w true (.returned (.bool true)) w1 := ⟨rfl, hb⟩
      clear K hb HR hk1
      go_wp2
      go_ret
      exact HF
    · rw [decide_eq_false hk1]
      go_enter Tryz.func51, Tryz.ntmps51
      go_wp2_with fail
      refine (unhide K).mono ?_
      rintro e w1 ⟨rfl, hb⟩
      have x0 := ((unhide HR).below hb).kind
      have q1 : (r.kind == 1) = false := beq_eq_false_iff_ne.2 hk1
      have HF : BoolB w false (.returned (.bool false)) w1 := ⟨rfl, hb⟩
      clear K hb HR hk1
      generalize r.kind = kd at *
      go_wp2
      go_ret
      exact HF
end Go.Proofs.YtloocceakfmnoaaGreatDoor
/- The contract of the document's falls. -/
namespace Go.Proofs.YtloocceakfmnoaaGreatDoor
open Go.RowKit

def dips (l : List Rec) (x : List Int) (j : Nat) : Prop := Cn.cls l (x.getD j 0) ≠ 0 ∧ Cn.cls l (x.getD j 0) < Cn.cls l (x.getD (j - 1) 0)
theorem falls_iff (l : List Rec) : ∀ x : List Int, Cn.fallsA l x = true ↔ ∃ j, 1 ≤ j ∧ j < x.length ∧ dips l x j
  | [] => by simp [Cn.fallsA]
  | [a] => by
    simp only [Cn.fallsA]
    constructor
    · intro h; cases h
    · rintro ⟨j, h1, h2, _⟩
      simp at h2
      omega
  | a :: b :: r => by
    rw [Cn.fallsA, Bool.or_eq_true, falls_iff l (b :: r), decide_eq_true_iff]
    constructor
    · rintro (h | ⟨j, h1, h2, h3⟩)
      · exact ⟨1, by omega, by simp, by simpa [dips] using h⟩
      · refine ⟨j + 1, by omega, by simp at h2 ⊢; omega, ?_⟩
        obtain ⟨j, rfl⟩ : ∃ i, j = i + 1 := ⟨j - 1, by omega⟩
        simpa [dips] using h3
    · rintro ⟨j, h1, h2, h3⟩
      obtain ⟨j, rfl⟩ : ∃ i, j = i + 1 := ⟨j - 1, by omega⟩
      cases j with
      | zero => exact .inl (by simpa [dips] using h3)
      | succ j => exact .inr ⟨j + 1, by omega, by simp at h2 ⊢; omega, by simpa [dips] using h3⟩
theorem falls_at {l : List Rec} {x : List Int} {j : Nat} (h1 : 1 ≤ j) (h2 : j < x.length) (h : dips l x j) : Cn.fallsA l x = true := (falls_iff l x).2 ⟨j, h1, h2, h⟩
theorem falls_not {l : List Rec} {x : List Int} (h : ∀ j, 1 ≤ j → j < x.length → ¬ dips l x j) : Cn.fallsA l x = false := by
  rcases hb : Cn.fallsA l x with _ | _
  · rfl
  · obtain ⟨j, a, b, c⟩ := (falls_iff l x).1 hb
    exact absurd c (h j a b)
theorem cls_fit {w : World} {v : Value} {rs : List Rec} (hv : Rcs w v rs) (c : Int) : I64 (Cn.cls rs c) := by
  rcases hit_at hv 2 c with ⟨_, h2⟩ | ⟨k, _, _, _, _, _, h2, _, _, _, _, hf⟩
  · unfold Cn.cls; rw [h2]; exact ⟨by decide, by decide⟩
  · unfold Cn.cls; rw [h2]; exact hf.n
/-- Where the loop stands. -/
def FaIn (w : World) (v u : Value) (rs : List Rec) (xs : List Int) (k : Nat) (wr : World) : Prop := Rcs wr v rs ∧ Sk .i32 wr u xs ∧ Below w.heap.size w wr ∧ ∀ j, 1 ≤ j → j < k → j < xs.length → ¬ dips rs xs j

set_option maxRecDepth 8000 in
set_option maxHeartbeats 2000000 in
theorem refFalls_any (v u : Value) (rs : List Rec) (xs : List Int) (w : World) (hv : Rcs w v rs) (hu : Sk .i32 w u xs) (hxl : xs.length ≤ 1000000000) : Calls Tryz.prog 93 #[v, u] w (BoolB w (Cn.fallsA rs xs)) := by
  have HAT : Hid (∀ j, 1 ≤ j → j < xs.length → dips rs xs j → Cn.fallsA rs xs = true) := fun j a b c => falls_at a b c
  have HNO : Hid ((∀ j, 1 ≤ j → j < xs.length → ¬ dips rs xs j) → Cn.fallsA rs xs = false) := falls_not
  generalize Cn.fallsA rs xs = res at *
  have HW : Hid (FaIn w v u rs xs 1 w) := ⟨hv, hu, Below.refl _ _, fun j a b _ => by omega⟩
  have hlen := hv.1
  have HCF : Hid (∀ c, I64 (Cn.cls rs c)) := fun c => cls_fit hv c
  obtain ⟨ao, cap, rfl, _, _⟩ := hv.shape
  obtain ⟨uo, ucap, rfl, hu1, hu2⟩ := hu.shape
  clear hv hu
  go_enter Tryz.func93, Tryz.ntmps93
  go_wp2
  go_loopw [5, 6] (fun iv _ wr => ∃ k : Nat, iv = .int .i64 k ∧ 1 ≤ k ∧ k ≤ xs.length + 1 ∧ FaIn w (.slice ao rs.length cap) (.slice uo xs.length ucap) rs xs k wr) (fun iv _ _ => xs.length + 1 - (intOf iv).toNat)
  case atStart => exact ⟨1, rfl, by omega, by omega, unhide HW⟩
  case round =>
    obtain ⟨k, rfl, hk0, hk1, hrcs, hsk, hbel, hno⟩ := hrel
    clear HW
    by_cases hlt : k < xs.length
    · obtain ⟨b, off, cap', he, _, _, hcc⟩ := hsk.place (by omega)
      obtain ⟨rfl, rfl⟩ : uo = some ⟨b, off, none⟩ ∧ ucap = cap' := by simpa using he
      have hcell := hcc k hlt
      have K1 := hide (refClass_any _ rs (xs.getD k 0) wr hrcs (rune_of hsk hlt))
      have K2 : Hid (∀ w1, Below wr.heap.size wr w1 → Calls Tryz.prog 67 #[.slice ao rs.length cap, .int .i32 (xs.getD (k - 1) 0)] w1 (IntB w1 (Cn.cls rs (xs.getD (k - 1) 0)))) := fun w1 h => refClass_any _ rs _ w1 (hrcs.below h) (rune_of hsk (by omega))
      have HC0 : Hid (∀ w1, Below wr.heap.size wr w1 → w1.cell? ⟨b, off + (k - 1), none⟩ = some (.int .i32 (xs.getD (k - 1) 0))) := fun w1 h => by rw [Below.cell h (lt_of_cell? (hcc (k - 1) (by omega)))]; exact hcc (k - 1) (by omega)
      have HDIP : Hid (dips rs xs k ↔ Cn.cls rs (xs.getD k 0) ≠ 0 ∧ Cn.cls rs (xs.getD k 0) < Cn.cls rs (xs.getD (k - 1) 0)) := Iff.rfl
      have HNX : Hid (¬ dips rs xs k → ∀ w1, Below wr.heap.size wr w1 → FaIn w (.slice ao rs.length cap) (.slice (some ⟨b, off, none⟩) xs.length ucap) rs xs (k + 1) w1) := fun hd w1 h => ⟨hrcs.below h, hsk.below h, bthen hbel h, fun j a c d => by
        rcases Nat.lt_or_ge j k with h | h
        · exact hno j a h d
        · obtain rfl : j = k := by omega
          exact hd⟩
      have HB := hide hbel
      clear hcc hrcs hsk hbel hno he HNO
      have HT := hide ((unhide HAT) k hk0 hlt)
      clear HAT
      have i1 := (unhide HCF) (xs.getD k 0)
      have i0 := (unhide HCF) (xs.getD (k - 1) 0)
      clear HCF
      generalize Cn.cls rs (xs.getD k 0) = d1 at *
      generalize Cn.cls rs (xs.getD (k - 1) 0) = d0 at *
      generalize xs.getD k 0 = z1 at *
      generalize xs.getD (k - 1) 0 = z0 at *
      obtain ⟨i10, i11⟩ := i1
      obtain ⟨i00, i01⟩ := i0
      go_wp2_with fail
      refine (unhide K1).mono ?_
      rintro e w1 ⟨rfl, hb1⟩
      clear K1 hcell
      have hcell := (unhide HC0) w1 hb1
      have K3 := hide ((unhide K2) w1 hb1)
      have HN1 : Hid (∀ w2, Below w1.heap.size w1 w2 → ¬ dips rs xs k → FaIn w (.slice ao rs.length cap) (.slice (some ⟨b, off, none⟩) xs.length ucap) rs xs (k + 1) w2) := fun w2 h hd => (unhide HNX) hd w2 (bthen hb1 h)
      have HB1 := hide (bthen (unhide HB) hb1)
      clear HC0 K2 HNX hb1 HB
      by_cases hz : d1 = 0
      · have HX : Hid (FaIn w (.slice ao rs.length cap) (.slice (some ⟨b, off, none⟩) xs.length ucap) rs xs (k + 1) w1) := (unhide HN1) w1 (Below.refl _ _) (fun h => ((unhide HDIP).1 h).1 hz)
        subst hz
        clear HN1 HDIP K3 HT HB1
        go_wp2
        go_round
        case rel => exact ⟨k + 1, by go_num, by omega, by omega, unhide HX⟩
        case measure => simp [intOf]; omega
      · have qz : (d1 == 0) = false := beq_eq_false_iff_ne.2 hz
        by_cases hd : d1 < d0
        · obtain rfl := (unhide HT) ((unhide HDIP).2 ⟨hz, hd⟩)
          clear HN1 HDIP HT
          go_wp2_with fail
          refine (unhide K3).mono ?_
          rintro e w2 ⟨rfl, hb2⟩
          have HF := hide (bthen (unhide HB1) hb2)
          clear K3 hb2 HB1 hcell
          go_wp2
          go_ret
          exact ⟨rfl, unhide HF⟩
        · have HX := hide (fun w2 h => (unhide HN1) w2 h (fun h => hd ((unhide HDIP).1 h).2))
          clear HN1 HDIP HT HB1
          go_wp2_with fail
          refine (unhide K3).mono ?_
          rintro e w2 ⟨rfl, hb2⟩
          have HY := hide ((unhide HX) w2 hb2)
          clear K3 hb2 hcell HX
          go_wp2
          go_round
          case rel => exact ⟨k + 1, by go_num, by omega, by omega, unhide HY⟩
          case measure => simp [intOf]; omega
    · obtain rfl := (unhide HNO) (fun j a b => hno j a (by omega) b)
      have HF := hide hbel
      clear HNO HAT hno hbel hsk hrcs HCF
      go_wp2
      go_ret
      exact ⟨rfl, unhide HF⟩
end Go.Proofs.YtloocceakfmnoaaGreatDoor
/- The contracts of the document's small functions about fields. -/
namespace Go.Proofs.YtloocceakfmnoaaGreatDoor
open Go.RowKit

theorem refValid_any (c : Int) (w : World) (h : Rune c) : Calls Tryz.prog 129 #[.int .i32 c] w fun e w' => e = .returned (.bool (Cn.scalar c)) ∧ w' = w := by
  obtain ⟨h1, h2⟩ := h
  by_cases a1 : 0 ≤ c
  · by_cases a2 : c ≤ 55295
    · have hs : Cn.scalar c = true := by unfold Cn.scalar; simp; omega
      rw [hs]
      clear hs
      go_enter Tryz.func129, Tryz.ntmps129
      go_wp2
      go_ret
      exact ⟨rfl, rfl⟩
    · by_cases a3 : 57344 ≤ c
      · by_cases a4 : c ≤ 1114111
        · have hs : Cn.scalar c = true := by unfold Cn.scalar; simp; omega
          rw [hs]
          clear hs
          go_enter Tryz.func129, Tryz.ntmps129
          go_wp2
          go_ret
          exact ⟨rfl, rfl⟩
        · have hs : Cn.scalar c = false := by unfold Cn.scalar; simp; omega
          rw [hs]
          clear hs
          go_enter Tryz.func129, Tryz.ntmps129
          go_wp2
          go_ret
          exact ⟨rfl, rfl⟩
      · have hs : Cn.scalar c = false := by unfold Cn.scalar; simp; omega
        rw [hs]
        clear hs
        go_enter Tryz.func129, Tryz.ntmps129
        go_wp2
        go_ret
        exact ⟨rfl, rfl⟩
  · have a3 : ¬ 57344 ≤ c := by omega
    have hs : Cn.scalar c = false := by unfold Cn.scalar; simp; omega
    rw [hs]
    clear hs
    go_enter Tryz.func129, Tryz.ntmps129
    go_wp2
    go_ret
    exact ⟨rfl, rfl⟩
theorem all_false {x : List Int} {f : Int → Bool} {k : Nat} (hk : k < x.length) (h : f (x.getD k 0) = false) : x.all f = false := by
  rw [List.all_eq_false]
  exact ⟨x.getD k 0, by simp [List.getD, hk], by rw [h]; simp⟩
theorem all_true {x : List Int} {f : Int → Bool} (h : ∀ j, j < x.length → f (x.getD j 0) = true) : x.all f = true := by
  rw [List.all_eq_true]
  intro y hy
  obtain ⟨j, hj, rfl⟩ := List.getElem_of_mem hy
  have := h j hj
  simpa [List.getD, hj] using this
theorem refSound_any (u : Value) (xs : List Int) (w : World) (hu : Sk .i32 w u xs) (hl : xs.length ≤ 1000000000) : Calls Tryz.prog 160 #[u] w fun e w' => e = .returned (.bool (xs.all Cn.scalar)) ∧ w' = w := by
  have HAT : Hid (∀ k, k < xs.length → Cn.scalar (xs.getD k 0) = false → xs.all Cn.scalar = false) := fun k => all_false
  have HNO : Hid ((∀ j, j < xs.length → Cn.scalar (xs.getD j 0) = true) → xs.all Cn.scalar = true) := all_true
  generalize xs.all Cn.scalar = res at *
  have HS := hide hu
  obtain ⟨uo, ucap, rfl, hu1, hu2⟩ := hu.shape
  clear hu
  go_enter Tryz.func160, Tryz.ntmps160
  go_wp2
  go_loop [3] (fun iv => ∃ k : Nat, iv = .int .i64 k ∧ k ≤ xs.length ∧ ∀ j, j < k → Cn.scalar (xs.getD j 0) = true) (fun iv => xs.length - (intOf iv).toNat)
  case atStart => exact ⟨0, rfl, by omega, fun j hj => absurd hj (Nat.not_lt_zero _)⟩
  case round =>
    obtain ⟨k, rfl, hk, hno⟩ := hrel
    by_cases hlt : k < xs.length
    · obtain ⟨b, off, cap', he, _, _, hcc⟩ := (unhide HS).place (by omega)
      obtain ⟨rfl, rfl⟩ : uo = some ⟨b, off, none⟩ ∧ ucap = cap' := by simpa using he
      have hcell := hcc k hlt
      have K := hide (refValid_any (xs.getD k 0) w (rune_of (unhide HS) hlt))
      have HT := hide ((unhide HAT) k hlt)
      have HN : Hid (Cn.scalar (xs.getD k 0) = true → ∀ j, j < k + 1 → Cn.scalar (xs.getD j 0) = true) := fun h j hj => by
        rcases Nat.lt_or_ge j k with h' | h'
        · exact hno j h'
        · obtain rfl : j = k := by omega
          exact h
      clear hcc he HS HAT HNO hno
      generalize hy : Cn.scalar (xs.getD k 0) = y at HT HN K
      clear hy
      generalize xs.getD k 0 = z at *
      go_wp2_with fail
      refine (unhide K).mono ?_
      rintro e w1 ⟨rfl, rfl⟩
      clear K hcell
      cases y with
      | false =>
        obtain rfl := (unhide HT) rfl
        clear HT HN
        go_wp2
        go_ret
        exact ⟨rfl, rfl⟩
      | true =>
        have HN2 := hide ((unhide HN) rfl)
        clear HT HN
        go_wp2
        go_round
        case rel => exact ⟨k + 1, by go_num, by omega, unhide HN2⟩
        case measure => simp [intOf]; omega
    · obtain rfl : k = xs.length := by omega
      obtain rfl := (unhide HNO) hno
      clear HNO HAT hno HS
      go_wp2
      go_ret
      exact ⟨rfl, rfl⟩
theorem refList_any (u : Value) (xs : List Int) (a b : Nat) (w : World) (hu : Sk .i32 w u xs) (hl : xs.length ≤ 1000000000) : Calls Tryz.prog 130 #[u, .int .i64 a, .int .i64 b] w fun e w' => e = .returned (.bool (Cn.list xs a b)) ∧ w' = w := by
  have K := hide (refSound_any u xs w hu hl)
  obtain ⟨uo, ucap, rfl, hu1, hu2⟩ := hu.shape
  clear hu
  unfold Cn.list
  generalize xs.all Cn.scalar = y at *
  by_cases h1 : a ≤ xs.length
  · by_cases h2 : xs.length ≤ b
    · rw [decide_eq_true ⟨h1, h2⟩, Bool.true_and]
      go_enter Tryz.func130, Tryz.ntmps130
      go_wp2_with fail
      refine (unhide K).mono ?_
      rintro e w1 ⟨rfl, rfl⟩
      clear K
      go_wp2
      go_ret
      exact ⟨rfl, rfl⟩
    · rw [decide_eq_false (fun h => h2 h.2), Bool.false_and]
      clear K
      go_enter Tryz.func130, Tryz.ntmps130
      go_wp2
      go_ret
      exact ⟨rfl, rfl⟩
  · rw [decide_eq_false (fun h => h1 h.1), Bool.false_and]
    clear K
    go_enter Tryz.func130, Tryz.ntmps130
    go_wp2
    go_ret
    exact ⟨rfl, rfl⟩
end Go.Proofs.YtloocceakfmnoaaGreatDoor
