/- One element put behind a row of the call's own; a number's digits. -/
import Derived.Test.YtgccindoinhphaaPwA11
import Derived.Deep.AppendLies
namespace Go.Proofs.Ytgccindoinhphaa
open Go.RowKit

theorem infoB_parts : ∃ i, Try.prog.info? 5 = some i ∧ i.zero = some (.int .u8 0) ∧ i.size = 1 ∧ i.bytes = 1 := by
  have h : (Try.prog.info? 5).map (fun i => (i.zero, i.size, i.bytes)) = some (some (.int .u8 0), 1, 1) := by kernel_rfl
  cases hq : Try.prog.info? 5 with
  | none => rw [hq] at h; simp at h
  | some i => rw [hq] at h; simp at h; exact ⟨i, rfl, h.1, h.2.1, h.2.2⟩

theorem wpList_append_oneB {w : World} {ops : Array Oper} {rest : List Oper} {o : Oper} {a : Act} {Q : Exit → Act → World → Prop} (hgd : o.guard = none) (s x : Operand)
    (ho : o.op = .call { callee := .builtin .append, args := #[s, x], argTypes := #[40, 40] }) (B : Nat) (v : Value) (xs : List Int) (c : Int) (H : Nat) (hs : a.eval s = v) (hx : a.eval x = .slice (some ⟨H, 0, none⟩) 1 1)
    (hv : Ok .u8 5 w B v xs) (hH : H = w.heap.size) (hc : Fit .u8 [c]) (hl : xs.length ≤ 10000000000) (hB : B ≤ w.heap.size)
    (h : ∀ v' w', Ok .u8 5 w' B v' (xs ++ [c]) → (w.alloc (.cells #[.int .u8 c] 5)).grownBy w' v.ownBlock → (∀ g, v'.ownBlock = some g → v.ownBlock = some g ∨ w.heap.size ≤ g) → wpList Try.prog ops Q rest (a.put o.dst v') w') :
    wpList Try.prog ops Q (o :: rest) a (w.alloc (.cells #[.int .u8 c] 5)) := by
  obtain ⟨i0, hi, hz0, hz1, hz2⟩ := infoB_parts
  subst hH
  refine wpList_append_lies _ hgd s x 40 ho B 5 i0 (.int .u8 0) 1 1 Try.underlying40 hi hz0 hz1 hz2 rfl (by decide) v _ _ hs (hv.row.alloc _) ⟨w.heap.size, 0, none⟩ 1 1 [.int .u8 c] hx rfl (cell_one_new _ _ _) (int_one .u8 _) (by omega) (by unfold maxLen; omega) (by omega) (by rw [alloc_size]; omega) (w.heap.size + 1) (alloc_size _ _) ?_
  intro g cap w' h1 h2 h3 h4
  refine h _ w' (Ok.of (hv.1.app hc) (by simp; omega) h1 (by simp) (by simp)) h2 (fun k hk => ?_)
  have : k = g := by simpa [Value.ownBlock] using hk.symm
  subst this
  rcases h3 with h3 | h3
  · exact .inl h3
  · exact .inr (by omega)

theorem infoI_parts : ∃ i, Try.prog.info? 3 = some i ∧ i.zero = some (.int .i64 0) ∧ i.size = 1 ∧ i.bytes = 8 := by
  have h : (Try.prog.info? 3).map (fun i => (i.zero, i.size, i.bytes)) = some (some (.int .i64 0), 1, 8) := by kernel_rfl
  cases hq : Try.prog.info? 3 with
  | none => rw [hq] at h; simp at h
  | some i => rw [hq] at h; simp at h; exact ⟨i, rfl, h.1, h.2.1, h.2.2⟩

theorem wpList_append_oneI {w : World} {ops : Array Oper} {rest : List Oper} {o : Oper} {a : Act} {Q : Exit → Act → World → Prop} (hgd : o.guard = none) (s x : Operand)
    (ho : o.op = .call { callee := .builtin .append, args := #[s, x], argTypes := #[53, 53] }) (B : Nat) (v : Value) (xs : List Int) (c : Int) (H : Nat) (hs : a.eval s = v) (hx : a.eval x = .slice (some ⟨H, 0, none⟩) 1 1)
    (hv : Ok .i64 3 w B v xs) (hH : H = w.heap.size) (hc : Fit .i64 [c]) (hl : xs.length ≤ 10000000000) (hB : B ≤ w.heap.size)
    (h : ∀ v' w', Ok .i64 3 w' B v' (xs ++ [c]) → (w.alloc (.cells #[.int .i64 c] 3)).grownBy w' v.ownBlock → (∀ g, v'.ownBlock = some g → v.ownBlock = some g ∨ w.heap.size ≤ g) → wpList Try.prog ops Q rest (a.put o.dst v') w') :
    wpList Try.prog ops Q (o :: rest) a (w.alloc (.cells #[.int .i64 c] 3)) := by
  obtain ⟨i0, hi, hz0, hz1, hz2⟩ := infoI_parts
  subst hH
  refine wpList_append_lies _ hgd s x 53 ho B 3 i0 (.int .i64 0) 1 8 Try.underlying53 hi hz0 hz1 hz2 rfl (by decide) v _ _ hs (hv.row.alloc _) ⟨w.heap.size, 0, none⟩ 1 1 [.int .i64 c] hx rfl (cell_one_new _ _ _) (int_one .i64 _) (by omega) (by unfold maxLen; omega) (by omega) (by rw [alloc_size]; omega) (w.heap.size + 1) (alloc_size _ _) ?_
  intro g cap w' h1 h2 h3 h4
  refine h _ w' (Ok.of (hv.1.app hc) (by simp; omega) h1 (by simp) (by simp)) h2 (fun k hk => ?_)
  have : k = g := by simpa [Value.ownBlock] using hk.symm
  subst this
  rcases h3 with h3 | h3
  · exact .inl h3
  · exact .inr (by omega)


def GrP (B : Nat) (v : Value) (w : World) (zs : List Int) (e : Ending) (w' : World) : Prop :=
  ∃ v', e = .returned v' ∧ Ok .u8 5 w' B v' zs ∧ w.grownBy w' v.ownBlock ∧ ∀ g, v'.ownBlock = some g → v.ownBlock = some g ∨ w.heap.size ≤ g

theorem grown_trans {w1 w2 w3 : World} {r1 r2 : Option Nat} (h : w1.grownBy w2 r1) (k : w2.grownBy w3 r2) (hr : ∀ g, r2 = some g → r1 = some g ∨ w1.heap.size ≤ g) : w1.grownBy w3 r1 := by
  refine ⟨k.os.trans h.os, k.tape.trans h.tape, k.output.trans h.output, Nat.le_trans h.size k.size, fun g hg hne => ?_⟩
  rw [k.block g (Nat.lt_of_lt_of_le hg h.size) (fun hh => ?_), h.block g hg hne]
  rcases hr g hh.symm with h1 | h1
  · exact hne h1.symm
  · omega

set_option maxHeartbeats 1000000 in
theorem threshold_big (k bias : Int) (w : World) (hk : 0 ≤ k ∧ k ≤ 3000000000) (hb : -1000000 ≤ bias ∧ bias ≤ 1000000) :
    Calls Try.prog 42 #[.int .i64 k, .int .i64 bias] w (IntPost w (Pu.thr k bias)) := by
  by_cases h1 : 36 * k - bias < 1
  · have hr : Pu.thr k bias = 1 := by unfold Pu.thr; rw [if_pos h1]
    rw [hr]; clear hr
    go_enter Try.func42, Try.ntmps42
    go_wp2
    go_ret
    exact IntPost.mk (by first | rfl | omega)
  · by_cases h2 : 26 < 36 * k - bias
    · have hr : Pu.thr k bias = 26 := by unfold Pu.thr; rw [if_neg h1, if_pos h2]
      rw [hr]; clear hr
      go_enter Try.func42, Try.ntmps42
      go_wp2
      go_ret
      exact IntPost.mk (by first | rfl | omega)
    · have hr : Pu.thr k bias = 36 * k - bias := by unfold Pu.thr; rw [if_neg h1, if_neg h2]
      rw [hr]; clear hr
      go_enter Try.func42, Try.ntmps42
      go_wp2
      go_ret
      exact IntPost.mk (by first | rfl | omega)


set_option maxHeartbeats 4000000 in
theorem appendNumber_any (B : Nat) (v0 : Value) (zs0 : List Int) (val bias : Int) (w : World) (hv : Ok .u8 5 w B v0 zs0) (hB : B ≤ w.heap.size) (hl : zs0.length ≤ 100000000) (hval : 0 ≤ val ∧ val ≤ 2147483647) (hbias : 0 ≤ bias ∧ bias ≤ 468) :
    Calls Try.prog 37 #[v0, .int .i64 val, .int .i64 bias] w (GrP B v0 w (zs0 ++ Pu.wrNum val bias)) := by
  have hr0 : zs0 ++ Pu.wrNum val bias = zs0 ++ Pu.wrN bias val.toNat 1 val := rfl
  generalize zs0 ++ Pu.wrNum val bias = r at *
  have HR0 := hide hr0
  have HV0 := hide hv
  have HTH : Hid (∀ k W, 0 ≤ k ∧ k ≤ 3000000000 → Calls Try.prog 42 #[.int .i64 k, .int .i64 bias] W (IntPost W (Pu.thr k bias))) := fun k W h => threshold_big k bias W h (by omega)
  have hVsh : ∀ W v zs, Ok .u8 5 W B v zs → ∀ g, v.ownBlock = some g → B ≤ g := fun W v zs h g hg => (h.row.lt g hg).1
  have HVsh := hide hVsh
  clear hr0 hVsh hv
  go_enter Try.func37, Try.ntmps37
  go_wp2
  go_loopw [0, 1, 6, 7, 8] (fun bv vv _ kk _ wr => ∃ (f k : Nat) (y : Int) (zs : List Int), vv = .int .i64 y ∧ kk = .int .i64 ((k : Int) + 1) ∧ 0 ≤ y ∧ y ≤ f ∧ k + y ≤ 2147483647 ∧ zs.length ≤ 100000000 + k ∧ r = zs ++ Pu.wrN bias f ((k : Int) + 1) y ∧ Ok .u8 5 wr B bv zs ∧ w.grownBy wr v0.ownBlock ∧ B ≤ wr.heap.size ∧ w.heap.size ≤ wr.heap.size ∧ ∀ g, bv.ownBlock = some g → v0.ownBlock = some g ∨ w.heap.size ≤ g) (fun _ vv _ _ _ _ => (intOf vv).toNat)
  case atStart => exact ⟨val.toNat, 0, val, zs0, rfl, rfl, hval.1, by omega, by omega, by omega, unhide HR0, unhide HV0, grown_refl w _, hB, Nat.le_refl _, fun g hg => .inl hg⟩
  case round =>
    clear HR0 HV0
    obtain ⟨f, k, y, zs, rfl, rfl, hy0, hyf, hky, hzl, hr, hok, hgr, hBr, hsz, hown⟩ := hrel
    have htb := Pu.thr_bounds ((k : Int) + 1) bias
    have HT := fun W => hide (unhide HTH ((k : Int) + 1) W (by omega))
    have HOK := hide hok
    have HGR := hide hgr
    have HOWN := hide hown
    by_cases hlt : y < Pu.thr ((k : Int) + 1) bias
    · have hlb := Pu.let1_bounds (d := y) hy0 (by omega)
      have HL := fun W => hide (letter_any y W hy0 (by omega))
      have HE := hide (hr.trans (by rw [Pu.wrN_last hlt]))
      clear hr hok hgr hown HTH
      generalize Pu.let1 y = c at *
      generalize Pu.thr ((k : Int) + 1) bias = t at *
      go_wp2_with (first | (go_at_call 42; refine (unhide (HT _)).mono ?_; rintro e wq ⟨rfl, rfl⟩; clear HT) | (go_at_call 50; refine (unhide (HL _)).mono ?_; rintro e wq ⟨rfl, rfl⟩; clear HL) | (at_builtin; refine wpList_append_oneB rfl (.tmp 17) (.tmp 20) rfl B _ zs c _ rfl rfl (unhide HOK) rfl (fun z hz => by simp at hz; subst hz; exact u8_fit (by omega)) (by omega) hBr ?_))
      intro v2 w2 h1 h2 h3
      have hvb : ∀ g, u0.ownBlock = some g → B ≤ g := fun g hg => unhide HVsh _ _ _ (unhide HOK) g hg
      have HF : Hid (GrP B v0 w r (.returned v2) w2) := by
        refine ⟨v2, rfl, by rw [unhide HE]; exact h1, ?_, ?_⟩
        · exact grown_trans (grown_alloc (unhide HGR) (.cells #[.int .u8 c] 5)) h2 (unhide HOWN)
        · intro g hg
          rcases h3 g hg with h4 | h4
          · exact unhide HOWN g h4
          · exact .inr (by omega)
      clear h1 h2 h3 HOK HGR HOWN HE hvb
      go_wp2
      go_ret
      exact unhide HF
    · have ht1 : 0 ≤ y - Pu.thr ((k : Int) + 1) bias := by omega
      have hq0 : 0 ≤ (y - Pu.thr ((k : Int) + 1) bias) / (36 - Pu.thr ((k : Int) + 1) bias) := Int.ediv_nonneg ht1 (by omega)
      have hq1 : (y - Pu.thr ((k : Int) + 1) bias) / (36 - Pu.thr ((k : Int) + 1) bias) ≤ y - Pu.thr ((k : Int) + 1) bias := Int.ediv_le_self _ ht1
      have hm0 : 0 ≤ (y - Pu.thr ((k : Int) + 1) bias) % (36 - Pu.thr ((k : Int) + 1) bias) := Int.emod_nonneg _ (by omega)
      have hm1 : (y - Pu.thr ((k : Int) + 1) bias) % (36 - Pu.thr ((k : Int) + 1) bias) < 36 - Pu.thr ((k : Int) + 1) bias := Int.emod_lt_of_pos _ (by omega)
      obtain ⟨f, rfl⟩ : ∃ g, f = g + 1 := ⟨f - 1, by omega⟩
      have HE := hide (hr.trans (by rw [Pu.wrN_more hlt]))
      have hlb := Pu.let1_bounds (d := Pu.thr ((k : Int) + 1) bias + (y - Pu.thr ((k : Int) + 1) bias) % (36 - Pu.thr ((k : Int) + 1) bias)) (by omega) (by omega)
      have HL := fun W => hide (letter_any (Pu.thr ((k : Int) + 1) bias + (y - Pu.thr ((k : Int) + 1) bias) % (36 - Pu.thr ((k : Int) + 1) bias)) W (by omega) (by omega))
      clear hr hok hgr hown HTH
      generalize Pu.let1 (Pu.thr ((k : Int) + 1) bias + (y - Pu.thr ((k : Int) + 1) bias) % (36 - Pu.thr ((k : Int) + 1) bias)) = c at *
      generalize Pu.thr ((k : Int) + 1) bias = t at *
      go_wp2_with (first | (go_at_call 42; refine (unhide (HT _)).mono ?_; rintro e wq ⟨rfl, rfl⟩; clear HT) | (go_at_call 50; refine (unhide (HL _)).mono ?_; rintro e wq ⟨rfl, rfl⟩; clear HL) | (at_builtin; refine wpList_append_oneB rfl (.tmp 25) (.tmp 33) rfl B _ zs c _ rfl rfl (unhide HOK) rfl (fun z hz => by simp at hz; subst hz; exact u8_fit (by omega)) (by omega) hBr ?_))
      intro v2 w2 h1 h2 h3
      have hg2 : w.grownBy w2 v0.ownBlock := grown_trans (grown_alloc (unhide HGR) (.cells #[.int .u8 c] 5)) h2 (unhide HOWN)
      have ho2 : ∀ g, v2.ownBlock = some g → v0.ownBlock = some g ∨ w.heap.size ≤ g := fun g hg => by
        rcases h3 g hg with h4 | h4
        · exact unhide HOWN g h4
        · exact .inr (by omega)
      have hs2 : w.heap.size ≤ w2.heap.size := hg2.size
      have HF := hide h1
      have HG2 := hide hg2
      have HO2 := hide ho2
      have HZL : Hid ((zs ++ [c]).length ≤ 100000000 + (k + 1)) := by show _ ≤ _; simp; omega
      have HE2 : Hid (r = (zs ++ [c]) ++ Pu.wrN bias f (((k + 1 : Nat) : Int) + 1) ((y - t) / (36 - t))) := by
        show _ = _
        rw [unhide HE, List.append_assoc]
        simp
      clear h1 h2 h3 HOK HGR HOWN HE hg2 ho2
      go_wp2
      go_roundw
      case rel => exact ⟨f, k + 1, (y - t) / (36 - t), zs ++ [c], by first | rfl | go_num, by first | rfl | go_num, hq0, by omega, by omega, unhide HZL, unhide HE2, unhide HF, unhide HG2, by omega, hs2, unhide HO2⟩
      case measure => simp [intOf]; omega
end Go.Proofs.Ytgccindoinhphaa
