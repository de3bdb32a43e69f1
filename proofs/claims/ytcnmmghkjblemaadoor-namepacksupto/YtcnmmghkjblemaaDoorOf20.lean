/- The document's Unpack of chapter 20. -/
import Derived.Test.YtcnmmghkjblemaaDoorOe20
namespace Go.Proofs.YtcnmmghkjblemaaDoor
open Go.RowKit

namespace Na
theorem joi_grow (ls : List (List Int)) (l : List Int) : (joi ls).length ≤ (joi (ls ++ [l])).length := by
  rw [joi_snoc]
  split
  · rename_i h; rw [h]; simp [joi]
  · simp
/-- What the document's Unpack has read so far: the text, and whether it is the first label; or too long already. -/
def St (t : List Int) (f : Bool) (ls : List (List Int)) : Prop := (t = joi ls ∧ f = decide (ls = [])) ∨ (400 ≤ t.length ∧ 400 ≤ (joi ls).length ∧ f = false)
def Rq (q : Int × List (List Int) × Nat) : Int × List Int × Int := if q.1 = 0 then (if (joi q.2.1).length ≤ 253 then (0, joi q.2.1, (q.2.2 : Int)) else (2, [], 0)) else (q.1, [], 0)
theorem St.long {t : List Int} {f : Bool} {ls : List (List Int)} (h : St t f ls) (ht : 400 ≤ t.length) (l : List Int) : St t false (ls ++ [l]) := by
  have := joi_grow ls l
  rcases h with ⟨rfl, _⟩ | ⟨h1, h2, _⟩
  · exact .inr ⟨ht, by omega, rfl⟩
  · exact .inr ⟨ht, by omega, rfl⟩
theorem St.fst {t : List Int} {ls : List (List Int)} (h : St t true ls) (l : List Int) : St (t ++ l) false (ls ++ [l]) := by
  rcases h with ⟨rfl, h2⟩ | ⟨_, _, h3⟩
  · have e : ls = [] := of_decide_eq_true h2.symm
    subst e
    exact .inl ⟨rfl, by simp⟩
  · cases h3
theorem St.nxt {t : List Int} {ls : List (List Int)} (h : St t false ls) (ht : t.length < 400) (l : List Int) : St (t ++ [46] ++ l) false (ls ++ [l]) := by
  rcases h with ⟨rfl, h2⟩ | ⟨h1, _, _⟩
  · have e : ¬ ls = [] := of_decide_eq_false h2.symm
    refine .inl ⟨?_, by simp⟩
    rw [joi_snoc, if_neg e]; simp
  · omega
theorem St.fin {t : List Int} {f : Bool} {ls : List (List Int)} (h : St t f ls) (n : Nat) : (t.length ≤ 253 ∧ Rq (0, ls, n) = (0, t, (n : Int))) ∨ (¬ t.length ≤ 253 ∧ Rq (0, ls, n) = (2, [], 0)) := by
  unfold Rq
  rw [if_pos rfl]
  rcases h with ⟨rfl, _⟩ | ⟨h1, h2, _⟩
  · by_cases hl : (joi ls).length ≤ 253
    · exact .inl ⟨hl, by simp only; rw [if_pos hl]⟩
    · exact .inr ⟨hl, by simp only; rw [if_neg hl]⟩
  · exact .inr ⟨by omega, by simp only; rw [if_neg (by omega)]⟩
theorem any_step {l : List Int} {i : Nat} (hi : i < l.length) (h : (l.take i).any (fun x => decide (46 = x)) = false) (h2 : ¬ l.getD i 0 = 46) : (l.take (i + 1)).any (fun x => decide (46 = x)) = false := by
  rw [List.take_add_one, List.any_append, h]
  simp [List.getD, hi] at h2 ⊢
  exact fun e => h2 e.symm
theorem any_hit {l : List Int} {i : Nat} (hi : i < l.length) (h2 : l.getD i 0 = 46) : l.any (fun x => decide (46 = x)) = true := by
  rw [List.any_eq_true]
  exact ⟨l.getD i 0, by simp [List.getD, hi], by rw [h2]; rfl⟩
end Na
set_option maxRecDepth 8000 in
set_option maxHeartbeats 4000000 in
theorem refUnpack20 {w : World} {v : Value} {zs : List Int} (h : Sk .u8 w v zs) (a : Int) (hz : zs.length ≤ 100000000) : Calls Tryd.prog 13 #[v, .int .i64 a] w (UnpP20 w (Na.una zs a)) := by
  obtain ⟨ao, cap, rfl, hc1, hc2⟩ := h.shape
  by_cases h0 : a < 0
  · have e : Na.una zs a = (1, [], 0) := by unfold Na.una; rw [if_pos (.inl h0)]
    rw [e]
    have HF : Hid (UnpP20 w (1, [], 0) (.returned (.tuple #[.string ⟨#[]⟩, .int .i64 0, .int .i64 1])) w) := ⟨_, rfl, rfl, Below.refl _ _⟩
    clear h e
    go_enter Tryd.func13, Tryd.ntmps13
    go_wp2
    go_ret3
    exact unhide HF
  · by_cases h1 : (zs.length : Int) < a
    · have e : Na.una zs a = (1, [], 0) := by unfold Na.una; rw [if_pos (.inr h1)]
      rw [e]
      have HF : Hid (UnpP20 w (1, [], 0) (.returned (.tuple #[.string ⟨#[]⟩, .int .i64 0, .int .i64 1])) w) := ⟨_, rfl, rfl, Below.refl _ _⟩
      have L1 : a > (zs.length : Int) := h1
      clear h e
      go_enter Tryd.func13, Tryd.ntmps13
      go_wp2
      go_ret3
      exact unhide HF
    · obtain ⟨k0, rfl⟩ : ∃ k : Nat, a = k := ⟨a.toNat, by omega⟩
      have hk0 : k0 ≤ zs.length := by omega
      have hq : Na.una zs (k0 : Int) = Na.Rq (Na.ups zs k0 []) := Na.una_ups hk0
      have hb0 : ∀ x ∈ zs, 0 ≤ x := fun x hx => (fit_u8 (h.1 x hx)).1
      have L1 : ¬ ((k0 : Int) > (zs.length : Int)) := h1
      have HBad : Hid (∀ k ls, k ≤ zs.length → (Na.rdl zs k).1 ≠ 0 → Na.ups zs k ls = ((Na.rdl zs k).1, [], 0)) := fun k ls hk h => Na.ups_bad hb0 hk ls h
      have HEnd : Hid (∀ k ls, k ≤ zs.length → (Na.rdl zs k).1 = 0 → (Na.rdl zs k).2.1 = [] → Na.ups zs k ls = (0, ls, (Na.rdl zs k).2.2)) := fun k ls hk h h2 => Na.ups_end hb0 hk ls h h2
      have HNext : Hid (∀ k ls, k ≤ zs.length → (Na.rdl zs k).1 = 0 → (Na.rdl zs k).2.1 ≠ [] → Na.ups zs k ls = Na.ups zs (Na.rdl zs k).2.2 (ls ++ [(Na.rdl zs k).2.1])) := fun k ls hk h h2 => Na.ups_next hb0 hk ls h h2
      have HAt : Hid (∀ k, k < zs.length → Na.rdl zs k = if 63 < zs.getD k 0 then (200, [], 0) else if zs.length < k + 1 + (zs.getD k 0).toNat then (10, [], 0) else if ((zs.drop (k + 1)).take (zs.getD k 0).toNat).any (fun x => decide (46 = x)) = true then (200, [], 0) else (0, (zs.drop (k + 1)).take (zs.getD k 0).toNat, k + 1 + (zs.getD k 0).toNat)) := fun k hk => Na.rdl_at hk
      have HEE : Hid (Na.rdl zs zs.length = (10, [], 0)) := Na.rdl_end zs
      have HU8 : Hid (∀ k, 0 ≤ zs.getD k 0 ∧ zs.getD k 0 ≤ 255) := fun k => h.1.u8at k
      have HCE : Hid (∀ k, k < zs.length → ∃ b off, ao = some ⟨b, off, none⟩ ∧ ∀ j, j < zs.length → w.cell? ⟨b, off + j, none⟩ = some (.int .u8 (zs.getD j 0))) := fun k hk => by
        obtain ⟨b, off, c, he, _, _, hc⟩ := h.place (by omega)
        simp only [Value.slice.injEq] at he
        exact ⟨b, off, he.1, hc⟩
      have HCV : Hid (∀ k m b off, ao = some ⟨b, off, none⟩ → k + m ≤ zs.length → ¬ cap = k → (convert 22 9 (.slice (some ⟨b, off + k, none⟩) m (cap - k))).run Tryd.prog w = .ok (.string (strOfNums ((zs.drop k).take m))) w) := fun k m b off he hkm hne => by
        subst he
        have := (h.cut (l := k) (h := k + m) (m := cap) (by omega) hkm (by omega) (Nat.le_refl _)).conv20
        rw [cut_shape20 hne, show k + m - k = m by omega] at this
        simpa [addr_add] using this
      have HBY : Hid (Byt zs) := fun z hz => fit_u8 (h.1 z hz)
      rw [hq]
      have HQ0 : Hid (Na.ups zs k0 [] = Na.ups zs k0 []) := rfl
      generalize hqq : Na.ups zs k0 [] = q
      have HQ := hide hqq.symm
      clear hq hqq HQ0 hb0 h
      go_enter Tryd.func13, Tryd.ntmps13
      go_wp2
      go_loopw [1, 7, 8, 9, 10] (fun va vs vf _ _ wr => ∃ (k : Nat) (t : ByteArray) (f : Bool) (ls : List (List Int)), va = .int .i64 k ∧ vs = .string t ∧ vf = .bool f ∧ k ≤ zs.length ∧ t.size ≤ 1000 ∧ Na.St (nums t) f ls ∧ q = Na.ups zs k ls ∧ w = wr) (fun va _ _ _ _ _ => zs.length - (intOf va).toNat)
      case atStart => exact ⟨k0, ⟨#[]⟩, true, [], rfl, rfl, rfl, hk0, by decide, .inl ⟨rfl, rfl⟩, unhide HQ, rfl⟩
      case round =>
        clear HQ
        obtain ⟨k, t, f, ls, rfl, rfl, rfl, hk, ht, hst, hq, rfl⟩ := hrel
        rcases Nat.lt_or_ge k zs.length with h1 | h1
        · obtain ⟨bb, off, rfl, hc⟩ := unhide HCE k h1
          have x1 := hc k h1
          have hat := unhide HAt k h1
          obtain ⟨u1, u2⟩ := unhide HU8 k
          obtain ⟨m, hm⟩ : ∃ m : Nat, zs.getD k 0 = m := ⟨(zs.getD k 0).toNat, by omega⟩
          have e1 := unhide HBad k ls hk
          have e2 := unhide HEnd k ls hk
          have e3 := unhide HNext k ls hk
          have hcv := unhide HCV (k + 1) m bb off rfl
          rw [hm] at x1 u2 hat
          rw [show ((m : Int)).toNat = m by omega] at hat
          have hab : ((k : Int) == (zs.length : Int)) = false := by rw [beq_eq_false_iff_ne]; omega
          have I1 : (k : Int) < zs.length := by omega
          have HC := hide hc
          have HST := hide hst
          clear HBad HEnd HNext HAt HEE HCE HCV hc hst u1 hm
          generalize Na.rdl zs k = r at *
          rcases Nat.eq_zero_or_pos m with hm0 | hm0
          · subst hm0
            have hr : r = (0, [], (k + 1)) := by rw [hat]; simp; omega
            subst hr
            have hq2 := hq.trans (e2 rfl rfl)
            subst hq2
            have hfin := (unhide HST).fin (k + 1)
            rw [nums_length] at hfin
            clear e1 e2 e3 hcv hat hq HC HST HU8 HBY
            rcases hfin with ⟨g1, g2⟩ | ⟨g1, g2⟩
            · have HF : Hid (UnpP20 w (Na.Rq (0, ls, (k + 1))) (.returned (.tuple #[.string t, .int .i64 (k + 1), .int .i64 0])) w) := by rw [g2]; exact ⟨t, rfl, rfl, Below.refl _ _⟩
              have L2 : ¬ ((t.size : Int) > 253) := by omega
              clear g1 g2
              go_wp2
              go_ret3
              exact unhide HF
            · have HF : Hid (UnpP20 w (Na.Rq (0, ls, (k + 1))) (.returned (.tuple #[.string ⟨#[]⟩, .int .i64 0, .int .i64 2])) w) := by rw [g2]; exact ⟨_, rfl, rfl, Below.refl _ _⟩
              have L2 : ((t.size : Int) > 253) := by omega
              clear g1 g2
              go_wp2
              go_ret3
              exact unhide HF
          · have hm1 : ((m : Int) == 0) = false := by rw [beq_eq_false_iff_ne]; omega
            have hwl : IntKind.i64.wrap ((zs.length : Int) - ((k : Int) + 1)) = (zs.length : Int) - ((k : Int) + 1) := by rw [IntKind.wrap_i64]; omega
            by_cases h63 : 63 < m
            · have hr : r = (200, [], 0) := by rw [hat, if_pos (by omega)]
              subst hr
              have hq2 := hq.trans (e1 (by decide))
              subst hq2
              have HF : Hid (UnpP20 w (Na.Rq (200, [], 0)) (.returned (.tuple #[.string ⟨#[]⟩, .int .i64 0, .int .i64 200])) w) := ⟨_, rfl, rfl, Below.refl _ _⟩
              have L2 : (m : Int) > 63 := by omega
              clear e1 e2 e3 hcv hat hq HC HST HU8 HBY
              go_wp2
              go_ret3
              exact unhide HF
            · have L2 : ¬ ((m : Int) > 63) := by omega
              rw [if_neg (by omega)] at hat
              by_cases hlen : zs.length < (k + 1) + m
              · have hr : r = (10, [], 0) := by rw [hat, if_pos hlen]
                subst hr
                have hq2 := hq.trans (e1 (by decide))
                subst hq2
                have HF : Hid (UnpP20 w (Na.Rq (10, [], 0)) (.returned (.tuple #[.string ⟨#[]⟩, .int .i64 0, .int .i64 10])) w) := ⟨_, rfl, rfl, Below.refl _ _⟩
                have L3 : (zs.length : Int) - ((k : Int) + 1) < (m : Int) := by omega
                clear e1 e2 e3 hcv hat hq HC HST HU8 HBY
                go_wp2
                go_ret3
                exact unhide HF
              · have L3 : ¬ ((zs.length : Int) - ((k : Int) + 1) < (m : Int)) := by omega
                rw [if_neg hlen] at hat
                have hll : ((zs.drop (k + 1)).take m).length = m := by rw [List.length_take, List.length_drop]; omega
                have HLG : Hid (∀ i, i < m → ((zs.drop (k + 1)).take m).getD i 0 = zs.getD ((k + 1) + i) 0) := fun i hi => by
                  rw [List.getD, List.getElem?_take_of_lt hi, List.getElem?_drop, List.getD]
                have HLB : Hid (Byt ((zs.drop (k + 1)).take m)) := fun z hz => unhide HBY z (List.mem_of_mem_drop (List.mem_of_mem_take hz))
                have hcv2 := hcv (by omega) (by omega)
                have HCV2 := hide hcv2
                have HAT := hide hat
                have HE1 := hide e1
                have HE3 := hide e3
                clear e1 e2 e3 hcv hcv2 hat HBY
                generalize (zs.drop (k + 1)).take m = l at *
                go_wp2
                go_loopw [10] (fun vi wr => ∃ i : Nat, vi = .int .i64 i ∧ i ≤ m ∧ (l.take i).any (fun x => decide (46 = x)) = false ∧ w = wr) (fun vi _ => m - (intOf vi).toNat)
                case atStart => exact ⟨0, rfl, by omega, rfl, rfl⟩
                case round =>
                  obtain ⟨i, rfl, him, hno, rfl⟩ := hrel
                  rcases Nat.lt_or_ge i m with hi1 | hi1
                  · have hg := unhide HLG i hi1
                    have x2 := unhide HC ((k + 1) + i) (by omega)
                    rw [← hg] at x2
                    obtain ⟨b1, b2⟩ := unhide HU8 ((k + 1) + i)
                    rw [← hg] at b1 b2
                    have hwi : IntKind.i64.wrap ((k : Int) + 1 + (i : Int)) = (k : Int) + 1 + (i : Int) := by rw [IntKind.wrap_i64]; omega
                    have hzi : ((k : Int) + 1 + (i : Int)).toNat = k + 1 + i := by omega
                    have I2 : (k : Int) + 1 + (i : Int) < zs.length := by omega
                    have I4 : (0 : Int) ≤ (k : Int) + 1 + (i : Int) := by omega
                    have I3 : (i : Int) < m := by omega
                    by_cases hc : l.getD i 0 = 46
                    · have hr : r = (200, [], 0) := by rw [unhide HAT, if_pos (Na.any_hit (by omega) hc)]
                      subst hr
                      have hq2 := hq.trans (unhide HE1 (by decide))
                      subst hq2
                      rw [hc] at x2
                      have HF : Hid (UnpP20 w (Na.Rq (200, [], 0)) (.returned (.tuple #[.string ⟨#[]⟩, .int .i64 0, .int .i64 200])) w) := ⟨_, rfl, rfl, Below.refl _ _⟩
                      clear HAT HE1 HE3 HCV2 HC HST HU8 HLG HLB hq hno hg hc
                      go_wp2
                      go_ret3
                      exact unhide HF
                    · have he : (l.getD i 0 == 46) = false := beq_eq_false_iff_ne.2 hc
                      have HN := hide (Na.any_step (by omega) hno hc)
                      clear hno hg hc
                      generalize l.getD i 0 = c at *
                      go_wp2
                      go_roundw
                      case rel => exact ⟨i + 1, by go_num, by omega, unhide HN, trivial⟩
                      case measure => simp [intOf]; omega
                  · obtain rfl : i = m := by omega
                    rw [List.take_of_length_le (by omega)] at hno
                    have hr : r = (0, l, (k + 1) + i) := by rw [unhide HAT, if_neg (by rw [hno]; decide)]
                    subst hr
                    have hq2 := hq.trans (unhide HE3 rfl (fun e => by simp only at e; rw [e] at hll; simp at hll; omega))
                    have HQ := hide hq2
                    have I3 : ¬ ((i : Int) < i) := by omega
                    have hcv3 := unhide HCV2
                    have hsl := strOf_size20 l
                    have HNS := hide (nums_str20 (unhide HLB))
                    have hw5 : IntKind.i64.wrap ((k : Int) + 1 + (i : Int)) = (k : Int) + 1 + (i : Int) := by rw [IntKind.wrap_i64]; omega
                    have j1 : (k : Int) + 1 ≤ (k : Int) + 1 + (i : Int) := by omega
                    have j2 : (k : Int) + 1 + (i : Int) ≤ (cap : Int) := by omega
                    have j3 : (0 : Int) ≤ (k : Int) + 1 := by omega
                    have j4 : ¬ cap = k + 1 := by omega
                    have j5 : k + 1 + i - (k + 1) = i := by omega
                    have j6 : k + 1 + i ≤ zs.length := by omega
                    have j7 : ((k : Int) + 1 + (i : Int)).toNat = k + 1 + i := by omega
                    clear HAT HE1 HE3 HCV2 HC HU8 HLG HLB hq hq2 hno
                    rcases Nat.lt_or_ge t.size 400 with h4 | h4
                    · have L5 : (t.size : Int) < 400 := by omega
                      cases f with
                      | true =>
                        have HS2 : Hid (Na.St (nums (t ++ strOfNums l)) false (ls ++ [l])) := by
                          have := (unhide HST).fst l
                          show Na.St _ _ _
                          rw [nums_append, unhide HNS]; exact this
                        have p1 : ∀ w, (Op.stringOp .add t (strOfNums l)).run Tryd.prog w = .ok (.string (t ++ strOfNums l)) w := fun w => run_string_add_sum w _ _ (by omega)
                        have hsz : (t ++ strOfNums l).size ≤ 1000 := by rw [ByteArray.size_append]; omega
                        clear HST HNS hll hsl hlen
                        generalize strOfNums l = sl at *
                        go_wp2
                        go_roundw
                        case rel => exact ⟨k + 1 + i, _, false, ls ++ [l], by first | rfl | go_num | (congr 1; omega), rfl, rfl, j6, hsz, unhide HS2, unhide HQ, trivial⟩
                        case measure => simp [intOf]; omega
                      | false =>
                        have HS2 : Hid (Na.St (nums (t ++ (⟨#[46]⟩ : ByteArray) ++ strOfNums l)) false (ls ++ [l])) := by
                          have := (unhide HST).nxt (by rw [nums_length]; exact h4) l
                          show Na.St _ _ _
                          rw [nums_append, nums_append, unhide HNS]; exact this
                        have p1 : ∀ w, (Op.stringOp .add t (⟨#[46]⟩ : ByteArray)).run Tryd.prog w = .ok (.string (t ++ (⟨#[46]⟩ : ByteArray))) w := fun w => run_string_add_sum w _ _ (by show t.size + 1 ≤ _; omega)
                        have p2 : ∀ w, (Op.stringOp .add (t ++ (⟨#[46]⟩ : ByteArray)) (strOfNums l)).run Tryd.prog w = .ok (.string (t ++ (⟨#[46]⟩ : ByteArray) ++ strOfNums l)) w := fun w => run_string_add_sum w _ _ (by rw [hsl, ByteArray.size_append]; show t.size + 1 + _ ≤ _; omega)
                        have hsz : (t ++ (⟨#[46]⟩ : ByteArray) ++ strOfNums l).size ≤ 1000 := by rw [ByteArray.size_append, ByteArray.size_append]; show t.size + 1 + _ ≤ _; omega
                        clear HST HNS hll hsl hlen
                        generalize strOfNums l = sl at *
                        go_wp2
                        go_roundw
                        case rel => exact ⟨k + 1 + i, _, false, ls ++ [l], by first | rfl | go_num | (congr 1; omega), rfl, rfl, j6, hsz, unhide HS2, unhide HQ, trivial⟩
                        case measure => simp [intOf]; omega
                    · have L5 : ¬ ((t.size : Int) < 400) := by omega
                      have HS2 := hide ((unhide HST).long (by rw [nums_length]; exact h4) l)
                      clear HST HNS hll hsl hlen hcv3
                      go_wp2
                      go_roundw
                      case rel => exact ⟨k + 1 + i, t, false, ls ++ [l], by first | rfl | go_num | (congr 1; omega), rfl, rfl, j6, ht, unhide HS2, unhide HQ, trivial⟩
                      case measure => simp [intOf]; omega
        · obtain rfl : k = zs.length := by omega
          have hq2 := hq.trans (unhide HBad zs.length ls (Nat.le_refl _) (by rw [unhide HEE]; decide))
          rw [unhide HEE] at hq2
          subst hq2
          have HF : Hid (UnpP20 w (Na.Rq (10, [], 0)) (.returned (.tuple #[.string ⟨#[]⟩, .int .i64 0, .int .i64 10])) w) := ⟨_, rfl, rfl, Below.refl _ _⟩
          clear HBad HEnd HNext HAt HEE HCE HCV HU8 HBY hq hst
          go_wp2
          go_ret3
          exact unhide HF
end Go.Proofs.YtcnmmghkjblemaaDoor
