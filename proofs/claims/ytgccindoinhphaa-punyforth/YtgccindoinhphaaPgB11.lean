/- Read and written again, plainly. -/
import Derived.Test.YtgccindoinhphaaPgA11
namespace Go.Proofs.Ytgccindoinhphaa
open Go.RowKit

namespace Pu
theorem lastH_spec : ∀ (zs : List Int) (k a : Nat), lastH zs k a = a ∨ (k ≤ lastH zs k a ∧ lastH zs k a < k + zs.length ∧ zs.getD (lastH zs k a - k) 0 = 45)
  | [], _, _ => .inl rfl
  | z :: r, k, a => by
    rw [lastH]
    rcases lastH_spec r (k + 1) (if z = 45 then k else a) with h | ⟨h1, h2, h3⟩
    · rw [h]
      by_cases hz : z = 45
      · rw [if_pos hz]
        exact .inr ⟨Nat.le_refl _, by simp, by rw [Nat.sub_self]; exact hz⟩
      · rw [if_neg hz]; exact .inl rfl
    · refine .inr ⟨by omega, by simp; omega, ?_⟩
      obtain ⟨j, hj⟩ : ∃ j, lastH r (k + 1) (if z = 45 then k else a) = k + 1 + j := ⟨lastH r (k + 1) (if z = 45 then k else a) - (k + 1), by omega⟩
      rw [hj] at h3 ⊢
      rw [show k + 1 + j - (k + 1) = j by omega] at h3
      rw [show k + 1 + j - k = j + 1 by omega]
      simpa using h3
theorem text_parts (zs : List Int) : zs = zs.take (lastH zs 0 0) ++ hy (zs.take (lastH zs 0 0)) ++ tail zs := by
  unfold tail
  by_cases h0 : lastH zs 0 0 = 0
  · rw [if_pos h0, h0]; rfl
  · rw [if_neg h0]
    rcases lastH_spec zs 0 0 with h | ⟨_, h2, h3⟩
    · exact absurd h h0
    · generalize lastH zs 0 0 = l at *
      rw [Nat.zero_add] at h2
      rw [Nat.sub_zero] at h3
      have hh : hy (zs.take l) = [45] := by unfold hy; rw [if_neg (by rw [List.length_take]; omega)]
      rw [hh]
      have hd : zs.drop l = 45 :: zs.drop (l + 1) := by
        rw [List.drop_eq_getElem_cons h2]
        have : zs.getD l 0 = zs[l] := by simp [List.getD, h2]
        rw [← this, h3]
      rw [List.append_assoc, List.singleton_append, ← hd, List.take_append_drop]
theorem forth {zs X : List Int} (h : decode zs = (X, 0)) (hb : ∀ z ∈ zs, 0 ≤ z) (hs : ∀ z ∈ tail zs, smallB z) (hl : X.length ≤ 2000) : encode X = (zs, 0) := by
  rw [decode_eq] at h
  by_cases h1 : 65536 < zs.length
  · rw [if_pos h1] at h; simp at h
  · rw [if_neg h1] at h
    by_cases h2 : basicB zs = false
    · rw [if_pos h2] at h; simp at h
    · rw [if_neg h2] at h
      have h2' : basicB zs = true := by simpa using h2
      obtain ⟨ws, hws⟩ : ∃ ws, zs.take (lastH zs 0 0) = ws := ⟨_, rfl⟩
      have hparts := text_parts zs
      rw [hws] at h hparts
      have hwb : ∀ z ∈ ws, 0 ≤ z ∧ z < 128 := fun z hz => by
        have hm : z ∈ zs := List.mem_of_mem_take (by rw [hws]; exact hz)
        exact ⟨hb z hm, of_decide_eq_true (List.all_eq_true.1 h2' z hm)⟩
      obtain ⟨q, r, t⟩ := trace hl _ (tail zs) (begin ws) (Nat.le_refl _) hs (by show (0 : Int) ≤ 128; omega) (Int.le_refl _) (by show (0 : Int) ≤ (ws.length : Int); omega) h
      have tsel : sel X q X.length = ws := t.sel
      have hin : ∀ k, k < X.length → q k = true → X.getD k 0 ∈ ws := fun k hk hq => by
        rw [← tsel]; unfold sel
        exact List.mem_map.2 ⟨k, by simp [hk, hq], rfl⟩
      have hlo : ∀ k, k < X.length → lowq (X.getD k 0) = q k := fun k hk => by
        unfold lowq
        rcases t.all k hk with hq | hr
        · rw [hq]; exact decide_eq_true (hwb _ (hin k hk hq)).2
        · obtain ⟨_, k2, k3, _, _⟩ := t.nx k hr
          rw [k2]
          have : (128 : Int) ≤ X.getD k 0 := k3
          exact decide_eq_false (by omega)
      have hsd : allb okb X = true := by
        unfold allb; rw [List.all_eq_true]; intro z hz
        obtain ⟨k, hk, rfl⟩ := List.mem_iff_getElem.1 hz
        have he : X.getD k 0 = X[k] := by simp [List.getD, hk]
        rw [← he]
        unfold okb
        refine decide_eq_true ?_
        rcases t.all k hk with hq | hr
        · have := hwb _ (hin k hk hq); unfold Utf.okc; omega
        · exact (t.nx k hr).2.2.2.2
      have hrn : r.Nodup := t.ord.imp fun {a b} hab e => by subst e; unfold lx at hab; omega
      have hperm : r.Perm (idx X highq) := (List.perm_ext_iff_of_nodup hrn (inc_nodup (idx_inc _ _))).2 fun k => by
        rw [idx_mem]
        constructor
        · intro hk
          obtain ⟨k1, k2, _⟩ := t.nx k hk
          exact ⟨k1, by unfold highq; rw [hlo k k1, k2]; rfl⟩
        · rintro ⟨k1, k2⟩
          rcases t.all k k1 with hq | hr
          · unfold highq at k2; rw [hlo k k1, hq] at k2; cases k2
          · exact hr
      have hord : r = ordOf X := List.Perm.eq_of_pairwise (le := lx X) (fun a b _ _ h1 h2 => by unfold lx at h1 h2; omega) t.ord (sortF_lx (idx_inc _ _)) (hperm.trans (sortF_perm X _).symm)
      have hB := begin_Wv hl
      have hw := t.wr (t1Of X) (ws ++ hy ws) (fen_congr (fun k hk => by rw [hB.len] at hk; exact hlo k (by omega)) hB.fen) hB.len
      have hll : (idx X lowq).length = ws.length := by
        rw [← tsel, sel_len]; exact cnt_congr hlo (Nat.le_refl _)
      have hout : (wr1 X (idx X lowq) (List.replicate (X.length + 1) 0) []).2 = ws := by
        rw [wr1_out, List.nil_append, ← tsel]
        exact sel_congr (p := fun k => lowq (X.getD k 0)) hlo
      unfold encode
      rw [if_neg (by rw [hsd]; simp)]
      unfold write
      rw [hll, hout, ← hord]
      refine Eq.trans hw ?_
      rw [← hparts]
end Pu
end Go.Proofs.Ytgccindoinhphaa
