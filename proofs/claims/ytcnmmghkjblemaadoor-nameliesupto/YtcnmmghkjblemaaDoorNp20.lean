/- The program's readLabel and readLabels. -/
import Derived.Test.YtcnmmghkjblemaaDoorNo20
import Derived.Laws.BytesArg
namespace Go.Proofs.YtcnmmghkjblemaaDoor
open Go.RowKit

theorem conv0_20 (w : World) (ad : Addr) (c : Nat) : (convert 22 9 (.slice (some ad) 0 c)).run Tryd.prog w = .ok (.string (strOfNums [])) w := by
  rw [run_convert_bytes_string w 22 9 5 _ 0 c Tryd.underlying22 Tryd.underlying5 Tryd.underlying9, run_bytesToString w ad 0 c [] (run_loadCells_list (P := Tryd.prog) w ad [] (fun j v hj => by simp at hj))]
  rfl
theorem Sk.conv20 {w : World} {v : Value} {zs : List Int} (h : Sk .u8 w v zs) : (convert 22 9 v).run Tryd.prog w = .ok (.string (strOfNums zs)) w := by
  rcases Nat.eq_zero_or_pos zs.length with h0 | h0
  · obtain rfl := List.eq_nil_of_length_eq_zero h0
    obtain ⟨ao, cap, rfl, _, _⟩ := h.shape
    cases ao with
    | none => rw [List.length_nil, run_convert_bytes_nil w 22 5 Tryd.underlying22 Tryd.underlying5 0 cap 9 Tryd.underlying9]; rfl
    | some ad => exact conv0_20 w ad cap
  · obtain ⟨b, off, cap, rfl, hl, hm, hc⟩ := h.place h0
    exact run_convert_bytes_arg w 22 5 Tryd.underlying22 Tryd.underlying5 b off zs.length cap zs rfl hc 9 Tryd.underlying9
namespace Na
/-- One label at a place: what is wrong, the label, the place behind it. -/
def rdl (b : List Int) (a : Nat) : Int × List Int × Nat :=
  match b.drop a with
  | [] => (10, [], 0)
  | n :: r => if 63 < n then (200, [], 0) else if r.length < n.toNat then (10, [], 0) else if (r.take n.toNat).any (fun x => decide (46 = x)) = true then (200, [], 0) else (0, r.take n.toNat, a + 1 + n.toNat)
theorem rdl_at {b : List Int} {a : Nat} (h : a < b.length) : rdl b a = if 63 < b.getD a 0 then (200, [], 0) else if b.length < a + 1 + (b.getD a 0).toNat then (10, [], 0) else if ((b.drop (a + 1)).take (b.getD a 0).toNat).any (fun x => decide (46 = x)) = true then (200, [], 0) else (0, (b.drop (a + 1)).take (b.getD a 0).toNat, a + 1 + (b.getD a 0).toNat) := by
  unfold rdl
  rw [List.drop_eq_getElem_cons h]
  have e : b[a] = b.getD a 0 := by simp [List.getD, h]
  rw [e]
  simp only [List.length_drop]
  congr 1
  have : (b.length - (a + 1) < (b.getD a 0).toNat) = (b.length < a + 1 + (b.getD a 0).toNat) := by
    apply propext; omega
  simp only [this]
theorem rdl_end (b : List Int) : rdl b b.length = (10, [], 0) := by unfold rdl; rw [List.drop_length]
theorem upl_rdl {b : List Int} {a : Nat} (hb : ∀ x ∈ b, 0 ≤ x) (h : a ≤ b.length) : upl (b.drop a) = if (rdl b a).1 = 0 then (if (rdl b a).2.1 = [] then (0, [], 1) else if (upl (b.drop (rdl b a).2.2)).1 = 0 then (0, (rdl b a).2.1 :: (upl (b.drop (rdl b a).2.2)).2.1, (upl (b.drop (rdl b a).2.2)).2.2 + ((rdl b a).2.2 - a)) else ((upl (b.drop (rdl b a).2.2)).1, [], 0)) else ((rdl b a).1, [], 0) := by
  rcases Nat.lt_or_ge a b.length with h1 | h1
  · have e := rdl_at h1
    have hn := hb (b.getD a 0) (by simp [List.getD, h1])
    rw [List.drop_eq_getElem_cons h1, show b[a] = b.getD a 0 by simp [List.getD, h1], upl_cons]
    generalize b.getD a 0 = n at *
    by_cases h63 : 63 < n
    · rw [if_pos h63] at e
      rw [e, if_neg (by omega), if_pos h63, if_neg (by simp)]
    · rw [if_neg h63] at e
      by_cases hl : b.length < a + 1 + n.toNat
      · rw [if_pos hl] at e
        rw [e, if_neg (by omega), if_neg h63, if_pos (by rw [List.length_drop]; omega), if_neg (by simp)]
      · rw [if_neg hl] at e
        by_cases hd : ((b.drop (a + 1)).take n.toNat).any (fun x => decide (46 = x)) = true
        · rw [if_pos hd] at e
          have : n ≠ 0 := fun h => by subst h; simp at hd
          rw [e, if_neg this, if_neg h63, if_neg (by rw [List.length_drop]; omega), if_pos hd, if_neg (by simp)]
        · rw [if_neg hd] at e
          rw [e]
          simp only [if_true]
          by_cases h0 : n = 0
          · subst h0
            rw [if_pos rfl]; simp
          · rw [if_neg h0, if_neg h63, if_neg (by rw [List.length_drop]; omega), if_neg hd]
            have hne : (b.drop (a + 1)).take n.toNat ≠ [] := fun h => by
              have := congrArg List.length h
              rw [List.length_take, List.length_drop] at this
              simp at this; omega
            rw [if_neg hne, List.drop_drop]
            rw [show a + 1 + n.toNat - a = n.toNat + 1 by omega]
            rfl
  · obtain rfl : a = b.length := by omega
    rw [rdl_end, List.drop_length]
    rw [if_neg (by simp)]
    rfl
theorem rdl_byt {b : List Int} (hb : Byt b) (a : Nat) : Byt (rdl b a).2.1 := by
  unfold rdl
  cases e : b.drop a with
  | nil => intro z hz; cases hz
  | cons n r =>
    simp only
    have hr : Byt (r.take n.toNat) := fun z hz => hb z (List.mem_of_mem_drop (i := a) (by rw [e]; exact List.mem_cons_of_mem _ (List.mem_of_mem_take hz)))
    have h0 : Byt [] := fun z hz => by cases hz
    repeat' split
    all_goals first | exact h0 | exact hr
end Na
def RdP20 (w : World) (q : Int × List Int × Nat) (e : Ending) (w' : World) : Prop := e = .returned (.tuple #[.string (strOfNums q.2.1), .int .i64 (q.2.2 : Int), .int .i64 q.1]) ∧ w' = w
set_option maxRecDepth 8000 in
set_option maxHeartbeats 2000000 in
theorem readLabel20 {w : World} {v : Value} {zs : List Int} (h : Sk .u8 w v zs) (a : Nat) (ha : a ≤ zs.length) (hz : zs.length ≤ 1000000000) : Calls Tryd.prog 34 #[v, .int .i64 (a : Int)] w (RdP20 w (Na.rdl zs a)) := by
  obtain ⟨ao, cap, rfl, hc1, hc2⟩ := h.shape
  rcases Nat.lt_or_ge a zs.length with h1 | h1
  · obtain ⟨bb, off, cap', hv, _, _, hc⟩ := h.place (by omega)
    simp only [Value.slice.injEq] at hv
    obtain ⟨rfl, -, rfl⟩ := hv
    have x1 := hc a h1
    have hq := Na.rdl_at h1
    have hr := h.1.u8at a
    have hab : ((a : Int) == (zs.length : Int)) = false := by rw [beq_eq_false_iff_ne]; omega
    have I1 : (a : Int) < zs.length := by omega
    have HCUT : Hid (∀ n : Nat, a + 1 + n ≤ zs.length → (convert 22 9 (sliced (some ⟨bb, off, none⟩) (a + 1) (a + 1 + n) cap 1)).run Tryd.prog w = .ok (.string (strOfNums ((zs.drop (a + 1)).take n))) w) := fun n hn => by
      have := (h.cut (l := a + 1) (h := a + 1 + n) (m := cap) (by omega) hn (by omega) (Nat.le_refl _)).conv20
      rw [show a + 1 + n - (a + 1) = n by omega] at this
      exact this
    have KC := hide (fun s => conC20 s w)
    have HBY : Hid (Byt zs) := fun z hz => fit_u8 (h.1 z hz)
    generalize Na.rdl zs a = q at *
    generalize zs.getD a 0 = n at *
    have hw64 : IntKind.i64.wrap n = n := by rw [IntKind.wrap_i64]; omega
    clear h hc
    by_cases h63 : 63 < n
    · rw [if_pos h63] at hq
      subst hq
      clear HCUT KC HBY
      go_enter Tryd.func34, Tryd.ntmps34
      go_wp2
      go_ret3
      exact ⟨rfl, rfl⟩
    · rw [if_neg h63] at hq
      obtain ⟨m, rfl⟩ : ∃ m : Nat, n = m := ⟨n.toNat, by omega⟩
      rw [show ((m : Int)).toNat = m by omega] at hq
      have h63' : ¬ ((m : Int) > 63) := by omega
      by_cases hl : zs.length < a + 1 + m
      · rw [if_pos hl] at hq
        subst hq
        have L1 : (a : Int) + 1 + m > zs.length := by omega
        clear HCUT KC HBY
        go_enter Tryd.func34, Tryd.ntmps34
        go_wp2
        go_ret3
        exact ⟨rfl, rfl⟩
      · rw [if_neg hl] at hq
        have L1 : ¬ ((a : Int) + 1 + m > zs.length) := by omega
        have L2 : (a : Int) + 1 + m ≤ zs.length := by omega
        have hcv := unhide HCUT m (by omega)
        have hns : nums (strOfNums ((zs.drop (a + 1)).take m)) = (zs.drop (a + 1)).take m := nums_str20 fun z hz => unhide HBY z (List.mem_of_mem_drop (List.mem_of_mem_take hz))
        have hkc := unhide KC (strOfNums ((zs.drop (a + 1)).take m))
        rw [hns] at hkc
        have hL3 : (a : Int) + 1 ≤ (a : Int) + 1 + m := by omega
        have hL4 : (a : Int) + 1 + m ≤ cap := by omega
        clear HCUT KC hns HBY
        generalize (zs.drop (a + 1)).take m = l at *
        by_cases hd : l.any (fun x => decide (46 = x)) = true
        · rw [if_pos hd] at hq
          rw [hd] at hkc
          subst hq
          have KK := hide hkc
          clear hkc hd
          by_cases hm : cap = a + 1
          · have ek : sliced (some ⟨bb, off, none⟩) (a + 1) (a + 1 + m) cap 1 = .slice (some ⟨bb, off, none⟩) 0 0 := by unfold sliced; rw [if_pos hm, hm, show a + 1 + m - (a + 1) = 0 by omega, show a + 1 - (a + 1) = 0 by omega]
            rw [ek] at hcv
            obtain rfl : m = 0 := by omega
            subst hm
            go_enter Tryd.func34, Tryd.ntmps34
            go_wp2_with fail
            refine (unhide KK).mono ?_
            rintro e w1 ⟨rfl, rfl⟩
            go_wp2
            go_ret3
            exact ⟨rfl, rfl⟩
          · have ek : sliced (some ⟨bb, off, none⟩) (a + 1) (a + 1 + m) cap 1 = .slice (some ⟨bb, off + (a + 1), none⟩) m (cap - (a + 1)) := by unfold sliced; rw [if_neg hm, show a + 1 + m - (a + 1) = m by omega]; simp [Addr.add]
            rw [ek] at hcv
            go_enter Tryd.func34, Tryd.ntmps34
            go_wp2_with fail
            refine (unhide KK).mono ?_
            rintro e w1 ⟨rfl, rfl⟩
            go_wp2
            go_ret3
            exact ⟨rfl, rfl⟩
        · rw [if_neg hd] at hq
          rw [Bool.not_eq_true] at hd
          rw [hd] at hkc
          subst hq
          have KK := hide hkc
          clear hkc hd
          by_cases hm : cap = a + 1
          · have ek : sliced (some ⟨bb, off, none⟩) (a + 1) (a + 1 + m) cap 1 = .slice (some ⟨bb, off, none⟩) 0 0 := by unfold sliced; rw [if_pos hm, hm, show a + 1 + m - (a + 1) = 0 by omega, show a + 1 - (a + 1) = 0 by omega]
            rw [ek] at hcv
            obtain rfl : m = 0 := by omega
            subst hm
            go_enter Tryd.func34, Tryd.ntmps34
            go_wp2_with fail
            refine (unhide KK).mono ?_
            rintro e w1 ⟨rfl, rfl⟩
            go_wp2
            go_ret3
            exact ⟨rfl, rfl⟩
          · have ek : sliced (some ⟨bb, off, none⟩) (a + 1) (a + 1 + m) cap 1 = .slice (some ⟨bb, off + (a + 1), none⟩) m (cap - (a + 1)) := by unfold sliced; rw [if_neg hm, show a + 1 + m - (a + 1) = m by omega]; simp [Addr.add]
            rw [ek] at hcv
            go_enter Tryd.func34, Tryd.ntmps34
            go_wp2_with fail
            refine (unhide KK).mono ?_
            rintro e w1 ⟨rfl, rfl⟩
            go_wp2
            go_ret3
            exact ⟨rfl, rfl⟩
  · obtain rfl : a = zs.length := by omega
    rw [Na.rdl_end]
    clear h
    go_enter Tryd.func34, Tryd.ntmps34
    go_wp2
    go_ret3
    exact ⟨rfl, rfl⟩
end Go.Proofs.YtcnmmghkjblemaaDoor
