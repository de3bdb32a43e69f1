/- The contract of canon's Check. -/
import Derived.Test.YteigibncdbgpmaaGreatDoorCcT67
import Derived.Test.YteigibncdbgpmaaGreatDoorCcT77
import Derived.Test.YteigibncdbgpmaaGreatDoorCcT87
import Derived.Test.YteigibncdbgpmaaGreatDoorCcU7
import Derived.Test.YteigibncdbgpmaaGreatDoorCcR7
import Derived.Test.YteigibncdbgpmaaGreatDoorTbZ7
namespace Go.Proofs.YteigibncdbgpmaaGreatDoor
open Go.RowKit

namespace Cn
def tailC (rs : List Rec) (k : Nat) : Nat × Int := match recordA rs k (rs.drop k) with
  | some x => x
  | Option.none => if baseA rs 78 45 then (0, 0) else (rs.length, 70)
theorem tailC_hit {rs : List Rec} {k : Nat} (hk : k < rs.length) (h : record rs k (rs.getD k none) ≠ 0) : tailC rs k = (k, record rs k (rs.getD k none)) := by
  have e : rs.getD k none = rs[k] := by simp [List.getD, hk]
  rw [e] at h ⊢
  unfold tailC
  rw [List.drop_eq_getElem_cons hk, recordA, if_neg h]
theorem tailC_next {rs : List Rec} {k : Nat} (hk : k < rs.length) (h : record rs k (rs.getD k none) = 0) : tailC rs k = tailC rs (k + 1) := by
  have e : rs.getD k none = rs[k] := by simp [List.getD, hk]
  rw [e] at h
  unfold tailC
  rw [List.drop_eq_getElem_cons hk, recordA, if_pos h]
theorem tailC_end (rs : List Rec) : tailC rs rs.length = if baseA rs 78 45 then (0, 0) else (rs.length, 70) := by
  unfold tailC
  rw [List.drop_length, recordA]
theorem checkC_err {rs : List Rec} (h : (check6 rs).2 ≠ 0) : check rs = check6 rs := by unfold check; rw [if_pos h]
theorem checkC_ok {rs : List Rec} (h : (check6 rs).2 = 0) : check rs = tailC rs 0 := by unfold check tailC; rw [if_neg (fun e => e h)]; rfl
end Cn
theorem wrong_any (l cs os : List Rec) (cv ov : Value) (mr i : Nat) (vt : Value) (w : World) (hg : Glob w) (h : Idx l w cv ov cs os) (hp : PAt w mr (Cn.firstP l)) (hi : i < l.length) (hs : Sk .i32 w vt (l.getD i Cn.none).to) :
    Calls Tryz.prog 40 #[xV cv ov (.map (some mr)), .int .i64 (i : Int), recV (l.getD i Cn.none) vt] w (IntB w (Cn.record l i (l.getD i Cn.none))) := by
  obtain ⟨hl, hright⟩ := Cn.check6_all h.ok
  have hm : l.getD i Cn.none ∈ l := by simp [List.getD, hi]
  have hr := hright _ hm
  have hpb := Cn.pair_bad (l := l) (i := i) hi
  generalize l.getD i Cn.none = r at *
  by_cases hk : r.kind = 6 ∨ r.kind = 7 ∨ r.kind = 8
  · have h15 : r.kind ≠ 15 := by omega
    obtain ⟨s0, s1, s2⟩ := Cn.right_span hr h15
    have hlr : Rune r.lo := by unfold Rune; omega
    by_cases hlo : r.lo < 128
    · rw [Cn.record_low hr hk hlo]
      obtain ⟨cao, ccap, rfl, _, _⟩ := h.rc.shape
      obtain ⟨oao, ocap, rfl, _, _⟩ := h.ro.shape
      obtain ⟨tao, tcap, rfl, _, _⟩ := hs.shape
      exact wrongLow _ _ _ _ _ _ _ _ _ _ _ r.kind r.lo r.hi r.n r.to r.name r.other r.wt w hk hlo
    · obtain ⟨kd, lo, hi', nn, tt, nm, ot, wt⟩ := r
      rcases hk with k6 | k7 | k8
      · simp only at k6
        subst k6
        have := wrong6 l cs os cv ov mr i lo hi' nn tt nm ot wt vt w h hs hlo
        by_cases ht : touches ⟨6, lo, hi', nn, tt, nm, ot, wt⟩ = true
        · rw [if_pos ht] at this
          rw [Cn.record_hangul (.inl rfl) hlo (by rw [ht]; rfl)]
          exact this
        · rw [if_neg ht] at this
          rw [Cn.record_rest (.inl rfl) hlo (by simpa using ht), if_pos rfl]
          exact this
      · simp only at k7
        subst k7
        obtain ⟨⟨g1, g2⟩, g3⟩ := Cn.list_parts (Cn.right_decomp hr rfl).2.2
        simp only at g1 g2 g3
        have hra : Rune (tt.getD 0 0) := by
          have := of_decide_eq_true (g3 (tt.getD 0 0) (mem_getD (by omega)))
          unfold Rune; omega
        have hrb : Rune (tt.getD 1 0) := by
          have := of_decide_eq_true (g3 (tt.getD 1 0) (mem_getD (by omega)))
          unfold Rune; omega
        have := wrong7 l cs os cv ov mr i lo hi' nn tt nm ot wt vt w hg h hs hlo hlr (by omega) hra hrb hp
        by_cases ht : (touches ⟨7, lo, hi', nn, tt, nm, ot, wt⟩ || makes (tt.getD 0 0) (tt.getD 1 0)) = true
        · rw [if_pos ht] at this
          rw [Cn.record_hangul (.inr (.inl rfl)) hlo (by simpa using ht)]
          exact this
        · rw [if_neg ht] at this
          rw [Cn.record_rest (.inr (.inl rfl)) hlo (by simpa using ht), if_neg (show ¬ (7 : Int) = 6 by decide)]
          by_cases hw : Cn.wfull l lo ≠ 0
          · rw [if_pos hw] at this
            rw [if_pos hw]
            exact this
          · rw [if_neg hw] at this
            rw [if_neg hw, hpb rfl]
            by_cases hb : Cn.bad7 l i ⟨7, lo, hi', nn, tt, nm, ot, wt⟩ = true
            · have hb2 := hb
              unfold Cn.bad7 at hb2
              rw [if_pos hb2] at this
              rw [if_pos ⟨rfl, by rw [hb]; rfl⟩]
              exact this
            · have hb2 := hb
              unfold Cn.bad7 at hb2
              rw [if_neg hb2] at this
              rw [if_neg (fun q => hb (by simpa using q.2))]
              exact this
      · simp only at k8
        subst k8
        have := wrong8 l cs os cv ov mr i lo hi' nn tt nm ot wt vt w hg h hs hlo hlr
        by_cases ht : touches ⟨8, lo, hi', nn, tt, nm, ot, wt⟩ = true
        · rw [if_pos ht] at this
          rw [Cn.record_hangul (.inr (.inr rfl)) hlo (by rw [ht]; rfl)]
          exact this
        · rw [if_neg ht] at this
          have e : Cn.record l i ⟨8, lo, hi', nn, tt, nm, ot, wt⟩ = Cn.wfull l lo := by
            rw [Cn.record_rest (.inr (.inr rfl)) hlo (by simpa using ht), if_neg (show ¬ (8 : Int) = 6 by decide)]
            by_cases hw : Cn.wfull l lo ≠ 0
            · rw [if_pos hw]
            · rw [if_neg hw, if_neg (fun q => absurd q.1 (show ¬ (8 : Int) = 7 by decide))]
              exact (Decidable.not_not.1 hw).symm
          rw [e]
          exact this
  · rw [Cn.record_none (by omega) (by omega) (by omega)]
    obtain ⟨cao, ccap, rfl, _, _⟩ := h.rc.shape
    obtain ⟨oao, ocap, rfl, _, _⟩ := h.ro.shape
    obtain ⟨tao, tcap, rfl, _, _⟩ := hs.shape
    exact wrongNone _ _ _ _ _ _ _ _ _ _ _ r.kind r.lo r.hi r.n r.to r.name r.other r.wt w (by omega) (by omega) (by omega)
end Go.Proofs.YteigibncdbgpmaaGreatDoor
