/- The program's readLabels. -/
import Derived.Test.YtcnmmghkjblemaaDoorNp20
namespace Go.Proofs.YtcnmmghkjblemaaDoor
open Go.RowKit

namespace Na
theorem rdl_ok {b : List Int} {a : Nat} (hb : ∀ x ∈ b, 0 ≤ x) (h : (rdl b a).1 = 0) : (rdl b a).2.2 = a + 1 + (rdl b a).2.1.length ∧ (rdl b a).2.2 ≤ b.length ∧ a < b.length ∧ (rdl b a).2.1.length ≤ 63 := by
  rcases Nat.lt_or_ge a b.length with h1 | h1
  · have e := rdl_at h1
    have hn := hb (b.getD a 0) (by simp [List.getD, h1])
    generalize b.getD a 0 = n at *
    rw [e] at h ⊢
    split at h
    · simp at h
    · rename_i h2
      rw [if_neg h2]
      split at h
      · simp at h
      · rename_i h3
        rw [if_neg h3]
        split at h
        · simp at h
        · rename_i h4
          rw [if_neg h4]
          simp only
          have : ((b.drop (a + 1)).take n.toNat).length = n.toNat := by rw [List.length_take, List.length_drop]; omega
          rw [this]
          omega
  · have : rdl b a = (10, [], 0) := by unfold rdl; rw [List.drop_eq_nil_of_le h1]
    rw [this] at h
    simp at h
/-- Labels from a place on: what is wrong, the labels, the place behind. -/
def ups (b : List Int) (a : Nat) (ls : List (List Int)) : Int × List (List Int) × Nat := if (upl (b.drop a)).1 = 0 then (0, ls ++ (upl (b.drop a)).2.1, a + (upl (b.drop a)).2.2) else ((upl (b.drop a)).1, [], 0)
theorem ups_bad {b : List Int} {a : Nat} (hb : ∀ x ∈ b, 0 ≤ x) (ha : a ≤ b.length) (ls : List (List Int)) (h : (rdl b a).1 ≠ 0) : ups b a ls = ((rdl b a).1, [], 0) := by
  unfold ups
  rw [upl_rdl hb ha, if_neg h]
  simp [h]
theorem ups_end {b : List Int} {a : Nat} (hb : ∀ x ∈ b, 0 ≤ x) (ha : a ≤ b.length) (ls : List (List Int)) (h : (rdl b a).1 = 0) (h2 : (rdl b a).2.1 = []) : ups b a ls = (0, ls, (rdl b a).2.2) := by
  have := (rdl_ok hb h).1
  unfold ups
  rw [upl_rdl hb ha, if_pos h, if_pos h2]
  rw [h2] at this
  simp [this]
theorem ups_next {b : List Int} {a : Nat} (hb : ∀ x ∈ b, 0 ≤ x) (ha : a ≤ b.length) (ls : List (List Int)) (h : (rdl b a).1 = 0) (h2 : (rdl b a).2.1 ≠ []) : ups b a ls = ups b (rdl b a).2.2 (ls ++ [(rdl b a).2.1]) := by
  have := rdl_ok hb h
  unfold ups
  rw [upl_rdl hb ha, if_pos h, if_neg h2]
  by_cases hu : (upl (b.drop (rdl b a).2.2)).1 = 0
  · rw [if_pos hu]
    simp only [if_true]
    rw [if_pos hu]
    simp
    omega
  · rw [if_neg hu]
    simp [hu]
end Na
def RsP20 (w : World) (q : Int × List (List Int) × Nat) (e : Ending) (w' : World) : Prop := ∃ v, e = .returned (.tuple #[v, .int .i64 (q.2.2 : Int), .int .i64 q.1]) ∧ Ow 9 w' w.heap.size v (txt20 q.2.1) ∧ Below w.heap.size w w'
set_option maxRecDepth 8000 in
set_option maxHeartbeats 2000000 in
theorem readLabels20 {w : World} {v : Value} {zs : List Int} (h : Sk .u8 w v zs) (a : Nat) (ha : a ≤ zs.length) (hz : zs.length ≤ 1000000000) : Calls Tryd.prog 26 #[v, .int .i64 (a : Int)] w (RsP20 w (Na.ups zs a [])) := by
  obtain ⟨i0, hi, hz0, hz1, hz2⟩ := parts20 inf20
  have hb0 : ∀ x ∈ zs, 0 ≤ x := fun x hx => (fit_u8 (h.1 x hx)).1
  have hby : Byt zs := fun x hx => fit_u8 (h.1 x hx)
  have KR : Hid (∀ W, Below w.heap.size w W → ∀ k, k ≤ zs.length → Calls Tryd.prog 34 #[v, .int .i64 (k : Int)] W (RdP20 W (Na.rdl zs k))) := fun W hW k hk => readLabel20 (h.below hW) k hk hz
  have HBad : Hid (∀ k ls, k ≤ zs.length → (Na.rdl zs k).1 ≠ 0 → Na.ups zs k ls = ((Na.rdl zs k).1, [], 0)) := fun k ls hk h => Na.ups_bad hb0 hk ls h
  have HEnd : Hid (∀ k ls, k ≤ zs.length → (Na.rdl zs k).1 = 0 → (Na.rdl zs k).2.1 = [] → Na.ups zs k ls = (0, ls, (Na.rdl zs k).2.2)) := fun k ls hk h h2 => Na.ups_end hb0 hk ls h h2
  have HNext : Hid (∀ k ls, k ≤ zs.length → (Na.rdl zs k).1 = 0 → (Na.rdl zs k).2.1 ≠ [] → Na.ups zs k ls = Na.ups zs (Na.rdl zs k).2.2 (ls ++ [(Na.rdl zs k).2.1])) := fun k ls hk h h2 => Na.ups_next hb0 hk ls h h2
  have HOk : Hid (∀ k, (Na.rdl zs k).1 = 0 → (Na.rdl zs k).2.2 = k + 1 + (Na.rdl zs k).2.1.length ∧ (Na.rdl zs k).2.2 ≤ zs.length ∧ k < zs.length ∧ (Na.rdl zs k).2.1.length ≤ 63) := fun k h => Na.rdl_ok hb0 h
  have HBY : Hid (∀ k, Byt (Na.rdl zs k).2.1) := fun k => Na.rdl_byt hby k
  have H0 : Hid (Na.ups zs a [] = Na.ups zs a []) := rfl
  generalize hq0 : Na.ups zs a [] = q
  rw [hq0] at H0
  have HQ0 := hide hq0.symm
  clear hq0 H0 hb0 hby h
  go_enter Tryd.func26, Tryd.ntmps26
  go_wp2
  go_loopw [1, 4, 7, 8, 9] (fun i vl _ _ _ wr => ∃ (k : Nat) (ls : List (List Int)), i = .int .i64 k ∧ k ≤ zs.length ∧ wr.ownsRow w.heap.size 9 1 vl ls.length (txt20 ls) ∧ ls.length ≤ k ∧ Below w.heap.size w wr ∧ q = Na.ups zs k ls) (fun i _ _ _ _ _ => zs.length - (intOf i).toNat)
  case atStart => exact ⟨a, [], rfl, ha, World.ownsRow_nil _ _ _ _, by simp, Below.refl _ _, unhide HQ0⟩
  case round =>
    clear HQ0
    obtain ⟨k, ls, rfl, hk, how, hll, hbel, hq⟩ := hrel
    have hB := hbel.size
    have K1 := hide (unhide KR wr hbel k hk)
    have e1 := unhide HBad k ls hk
    have e2 := unhide HEnd k ls hk
    have e3 := unhide HNext k ls hk
    have e4 := unhide HOk k
    have e5 := unhide HBY k
    clear KR HBad HEnd HNext HOk HBY
    generalize Na.rdl zs k = r at *
    obtain ⟨er, l, n⟩ := r
    simp only at e1 e2 e3 e4 e5
    by_cases hr : er = 0
    · subst hr
      obtain ⟨e6, e7, e8, e9⟩ := e4 rfl
      have E6 := hide e6
      clear e6 e4
      by_cases hl : l = []
      · subst hl
        have hq2 := hq.trans (e2 rfl rfl)
        subst hq2
        have HF : Hid (RsP20 w (0, ls, n) (.returned (.tuple #[_, .int .i64 (n : Int), .int .i64 0])) wr) := ⟨_, rfl, ⟨by rw [txt_len20]; show ls.length ≤ _; omega, by rw [txt_len20]; exact how⟩, hbel⟩
        have se : strOfNums [] = ⟨#[]⟩ := rfl
        clear e1 e2 e3 hq how hbel e5
        go_wp2_with fail
        refine (unhide K1).mono ?_
        rintro e w1 ⟨rfl, rfl⟩
        clear K1
        go_wp2
        go_ret3
        exact unhide HF
      · have hq2 := hq.trans (e3 rfl hl)
        have HQ := hide hq2
        have hsz := strOf_size20 l
        have hl0 : ¬ (strOfNums l).toList = [] := list_ne20 (fun e => hl (List.eq_nil_of_length_eq_zero (by omega)))
        have hne : ((strOfNums l).toList == []) = false := by rw [beq_eq_false_iff_ne]; exact hl0
        have hne2 : (strOfNums l).toList.isEmpty = false := by
          cases e : (strOfNums l).toList with
          | nil => exact absurd e hl0
          | cons => rfl
        have HNS := hide (nums_str20 e5)
        clear e1 e2 e3 hq hq2 e5 hl
        go_wp2_with fail
        refine (unhide K1).mono ?_
        rintro e w1 ⟨rfl, rfl⟩
        clear K1
        simp only
        generalize strOfNums l = sl at *
        go_wp2_with (at_builtin; refine wpList_append_own _ rfl (.tmp 24) (.tmp 26) 32 rfl w.heap.size 9 i0 (.string ⟨#[]⟩) 1 16 Tryd.underlying32 hi hz0 hz1 hz2 rfl (by decide) _ _ _ rfl (how.alloc _) ⟨w1.heap.size, 0, none⟩ 1 1 [.string sl] rfl rfl (one_new20 _ _ _) (str_one20 _) (by unfold maxLen; omega) (by omega) (by simp; omega) ?_)
        intro v9 w9 hrow9 hg9 _
        have hb9 : Below w.heap.size w w9 := below_append hB how hbel hg9
        rw [txt_snoc20 ls _ (unhide HNS)] at hrow9
        have HR := hide hrow9
        clear hrow9 hg9 how hbel
        go_wp2
        go_roundw
        case rel => exact ⟨n, ls ++ [l], rfl, e7, by simpa using unhide HR, by have := unhide E6; simp; omega, hb9, unhide HQ⟩
        case measure => have := unhide E6; simp [intOf]; omega
    · have hq2 := hq.trans (e1 hr)
      subst hq2
      have hz9 : (er != 0) = true := by simpa using hr
      have HF : Hid (RsP20 w (er, [], 0) (.returned (.tuple #[.slice none 0 0, .int .i64 0, .int .i64 er])) wr) := ⟨_, rfl, Ow.nil _ _ _, hbel⟩
      clear e1 e2 e3 e4 hq how hbel e5 hr
      go_wp2_with fail
      refine (unhide K1).mono ?_
      rintro e w1 ⟨rfl, rfl⟩
      clear K1
      go_wp2
      go_ret3
      exact unhide HF
end Go.Proofs.YtcnmmghkjblemaaDoor
