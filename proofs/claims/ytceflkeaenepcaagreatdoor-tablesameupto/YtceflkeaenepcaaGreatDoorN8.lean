import Derived.Test.YtceflkeaenepcaaGreatDoorN6
import Derived.Test.YtceflkeaenepcaaGreatDoorN7
import Derived.Test.YtceflkeaenepcaaGreatDoorN38
import Derived.Test.YtceflkeaenepcaaGreatDoorN40
namespace Go.Proofs.YtceflkeaenepcaaGreatDoor
open Go.RowKit
def eqL (rs ss : List Rec) : Bool := decide (rs.length = ss.length) && (List.range rs.length).all fun i => eqR (rs.getD i Cn.none) (ss.getD i Cn.none)
theorem eqL_len {rs ss : List Rec} (h : ¬ rs.length = ss.length) : eqL rs ss = false := by unfold eqL; rw [decide_eq_false h, Bool.false_and]
theorem eqL_all {rs ss : List Rec} (h : rs.length = ss.length) (ha : ∀ i, i < rs.length → eqR (rs.getD i Cn.none) (ss.getD i Cn.none) = true) : eqL rs ss = true := by
  unfold eqL
  rw [decide_eq_true h, Bool.true_and, List.all_eq_true]
  exact fun i hi => ha i (List.mem_range.1 hi)
theorem eqL_no {rs ss : List Rec} {k : Nat} (hk : k < rs.length) (he : eqR (rs.getD k Cn.none) (ss.getD k Cn.none) = false) : eqL rs ss = false := by
  unfold eqL
  have : ((List.range rs.length).all fun i => eqR (rs.getD i Cn.none) (ss.getD i Cn.none)) = false := by
    rw [List.all_eq_false]
    exact ⟨k, List.mem_range.2 hk, by rw [he]; exact Bool.false_ne_true⟩
  rw [this, Bool.and_false]
theorem eqL_self (rs : List Rec) : eqL rs rs = true := eqL_all rfl fun _ _ => eqR_self _
set_option maxRecDepth 4000 in
set_option maxHeartbeats 4000000 in
theorem sames_d (v u : Value) (rs ss : List Rec) (w : World) (hv : Rcs w v rs) (hu : Rcs w u ss) : Calls Tryz.prog 8 #[v, u] w (BoolB w (eqL rs ss)) := by
  have hlen := hv.1
  have hlen2 := hu.1
  by_cases hn : rs.length = ss.length
  · rcases Nat.eq_zero_or_pos rs.length with h0 | h0
    · have E : eqL rs ss = true := eqL_all hn fun i hi => absurd hi (by omega)
      rw [E]
      obtain ⟨ao, cap, rfl, _, _⟩ := hv.shape
      obtain ⟨ao', cap', rfl, _, _⟩ := hu.shape
      rw [← hn, h0]
      clear hv hu
      go_enter Tryz.func8, Tryz.ntmps8
      go_wp2
      refine wp_loop_rounds 1 ?_
      rw [rounds_succ]
      go_wp2
      go_ret
      exact ⟨rfl, Below.refl _ _⟩
    · obtain ⟨b, off, cap, rfl, hc1, hc2, hc⟩ := hv.place h0
      obtain ⟨b', off', cap', rfl, hc1', hc2', hc'⟩ := hu.place (by omega)
      have HC : Hid (∀ i, i < rs.length → ∀ W, Below w.heap.size w W → RecAt W b (off + i * 8) (rs.getD i Cn.none) ∧ RecAt W b' (off' + i * 8) (ss.getD i Cn.none)) := fun i hi W hb => ⟨(hc i hi).below hb, (hc' i (by omega)).below hb⟩
      have HALL : Hid ((∀ i, i < rs.length → eqR (rs.getD i Cn.none) (ss.getD i Cn.none) = true) → eqL rs ss = true) := fun h => eqL_all hn h
      have HNO : Hid (∀ k, k < rs.length → eqR (rs.getD k Cn.none) (ss.getD k Cn.none) = false → eqL rs ss = false) := fun k hk he => eqL_no hk he
      have qn : ((rs.length : Int) != (rs.length : Int)) = false := by simp
      rw [← hn] at hc1' ⊢
      clear hv hu hc hc' hn
      generalize eqL rs ss = lb at *
      go_enter Tryz.func8, Tryz.ntmps8
      go_wp2
      go_loopw [4, 5] (fun rv i wr => ∃ k : Nat, rv = .bool false ∧ i = .int .i64 k ∧ k ≤ rs.length ∧ (∀ q, q < k → eqR (rs.getD q Cn.none) (ss.getD q Cn.none) = true) ∧ Below w.heap.size w wr) (fun _ i _ => rs.length - (intOf i).toNat)
      case atStart => exact ⟨0, rfl, rfl, by omega, fun q h => absurd h (by omega), Below.refl _ _⟩
      case round =>
        obtain ⟨k, rfl, rfl, hk, hq, hbel⟩ := hrel
        by_cases hlt : k < rs.length
        · obtain ⟨hA, hB⟩ := (unhide HC) k hlt wr hbel
          have HQ := hide hq
          cases he : eqR (rs.getD k Cn.none) (ss.getD k Cn.none) with
          | true =>
            have HQ2 : Hid (∀ q, q < k + 1 → eqR (rs.getD q Cn.none) (ss.getD q Cn.none) = true) := fun q h => by
              rcases Nat.lt_or_ge q k with h1 | h1
              · exact hq q h1
              · rw [show q = k by omega]; exact he
            clear HC HQ hq HALL HNO
            generalize rs.getD k Cn.none = r at *
            generalize ss.getD k Cn.none = s at *
            obtain ⟨x0, x1, x2, x3, ⟨va, x4, ska⟩, x5, x6, x7⟩ := hA
            obtain ⟨y0, y1, y2, y3, ⟨vb, y4, skb⟩, y5, y6, y7⟩ := hB
            have KR : Hid (∀ n, Calls Tryz.prog 17 #[recV r va, recV s vb] (wr.drewN n) (BoolB (wr.drewN n) true)) := fun n => by
              have := sr_d r s va vb _ (sk_drew ska n) (sk_drew skb n)
              rw [he] at this; exact this
            unfold recV at KR
            obtain ⟨ao, ca, rfl, _, _⟩ := ska.shape
            obtain ⟨bo, cb, rfl, _, _⟩ := skb.shape
            clear ska skb he
            generalize r.kind = kd at *
            generalize r.n = n at *
            generalize r.lo = lo at *
            generalize r.hi = hi at *
            generalize r.name = nm at *
            generalize r.other = ot at *
            generalize r.wt = wt at *
            generalize r.to.length = tl at *
            generalize s.kind = kd2 at *
            generalize s.n = n2 at *
            generalize s.lo = lo2 at *
            generalize s.hi = hi2 at *
            generalize s.name = nm2 at *
            generalize s.other = ot2 at *
            generalize s.wt = wt2 at *
            generalize s.to.length = tl2 at *
            go_wp2
            go_region_with (refine ((unhide KR) _).mono ?_; rintro e w1 ⟨rfl, hb1⟩)
            all_goals
              have hbw : Below w.heap.size w w1 := hbel.trans (Below.mono (bthen (drewB ⟨_, rfl⟩) hb1) hbel.size)
              clear hb1
              go_wp2
              go_roundw
              case rel => exact ⟨k + 1, rfl, by go_num, by omega, unhide HQ2, hbw⟩
              case measure => simp [intOf]; omega
          | false =>
            have HLB := hide ((unhide HNO) k hlt he)
            clear HC HQ hq HALL HNO
            generalize rs.getD k Cn.none = r at *
            generalize ss.getD k Cn.none = s at *
            obtain ⟨x0, x1, x2, x3, ⟨va, x4, ska⟩, x5, x6, x7⟩ := hA
            obtain ⟨y0, y1, y2, y3, ⟨vb, y4, skb⟩, y5, y6, y7⟩ := hB
            have KR : Hid (∀ n, Calls Tryz.prog 17 #[recV r va, recV s vb] (wr.drewN n) (BoolB (wr.drewN n) false)) := fun n => by
              have := sr_d r s va vb _ (sk_drew ska n) (sk_drew skb n)
              rw [he] at this; exact this
            unfold recV at KR
            obtain ⟨ao, ca, rfl, _, _⟩ := ska.shape
            obtain ⟨bo, cb, rfl, _, _⟩ := skb.shape
            clear ska skb he
            generalize r.kind = kd at *
            generalize r.n = n at *
            generalize r.lo = lo at *
            generalize r.hi = hi at *
            generalize r.name = nm at *
            generalize r.other = ot at *
            generalize r.wt = wt at *
            generalize r.to.length = tl at *
            generalize s.kind = kd2 at *
            generalize s.n = n2 at *
            generalize s.lo = lo2 at *
            generalize s.hi = hi2 at *
            generalize s.name = nm2 at *
            generalize s.other = ot2 at *
            generalize s.wt = wt2 at *
            generalize s.to.length = tl2 at *
            go_wp2
            go_region_with (refine ((unhide KR) _).mono ?_; rintro e w1 ⟨rfl, hb1⟩)
            all_goals
              have hbw : Below w.heap.size w w1 := hbel.trans (Below.mono (bthen (drewB ⟨_, rfl⟩) hb1) hbel.size)
              clear hb1
              go_wp2
              go_ret
              exact ⟨by rw [unhide HLB]; rfl, hbw⟩
        · have HLB := hide ((unhide HALL) fun i hi => hq i (by omega))
          clear HC HALL HNO hq
          go_wp2
          go_ret
          exact ⟨by rw [unhide HLB]; rfl, hbel⟩
  · rw [eqL_len hn]
    have hne : ((rs.length : Int) != (ss.length : Int)) = true := by simp; omega
    obtain ⟨ao, cap, rfl, _, _⟩ := hv.shape
    obtain ⟨ao', cap', rfl, _, _⟩ := hu.shape
    clear hv hu hn
    go_enter Tryz.func8, Tryz.ntmps8
    go_wp2
    go_ret
    exact ⟨rfl, Below.refl _ _⟩
end Go.Proofs.YtceflkeaenepcaaGreatDoor
namespace Go.Proofs.YtceflkeaenepcaaGreatDoor
open Go.RowKit Go.Shelf
theorem cell_alloc6 {w : World} {b o : Nat} {v : Value} (h : w.cell? ⟨b, o, none⟩ = some v) (ob : Obj) : (w.alloc ob).cell? ⟨b, o, none⟩ = some v := by
  rw [Below.cell ((Below.refl w.heap.size w).alloc (Nat.le_refl _) ob) (lt_of_cell? h)]; exact h
set_option maxRecDepth 8000 in
set_option maxHeartbeats 4000000 in
theorem eqFunc6 (v u : Value) (rs ss : List Rec) (w : World) (hv : Rcs w v rs) (hu : Rcs w u ss) : Calls Tryz.prog 15 #[v, u, .func (.func 16) #[] #[]] w (BoolB w (eqL rs ss)) := by
  have eg : ∀ args w, (callFunc 16 args).run Tryz.prog w = .ok (.enter 16 args) w := enters_of Tryz.func16 (by kernel_rfl) rfl
  have hlen := hv.1
  have hlen2 := hu.1
  by_cases hn : rs.length = ss.length
  · rcases Nat.eq_zero_or_pos rs.length with h0 | h0
    · have E : eqL rs ss = true := eqL_all hn fun i hi => absurd hi (by omega)
      rw [E]
      obtain ⟨ao, cap, rfl, _, _⟩ := hv.shape
      obtain ⟨ao', cap', rfl, _, _⟩ := hu.shape
      rw [← hn, h0]
      clear hv hu
      go_enter Tryz.func15, Tryz.ntmps15
      go_wp2
      refine wp_loop_rounds 1 ?_
      rw [rounds_succ]
      go_wp2
      go_ret
      exact ⟨rfl, Below.refl _ _⟩
    · obtain ⟨b, off, cap, rfl, hc1, hc2, hc⟩ := hv.place h0
      obtain ⟨b', off', cap', rfl, hc1', hc2', hc'⟩ := hu.place (by omega)
      have HC : Hid (∀ i, i < rs.length → ∀ W, Below w.heap.size w W → RecAt W b (off + i * 8) (rs.getD i Cn.none) ∧ RecAt W b' (off' + i * 8) (ss.getD i Cn.none)) := fun i hi W hb => ⟨(hc i hi).below hb, (hc' i (by omega)).below hb⟩
      have HALL : Hid ((∀ i, i < rs.length → eqR (rs.getD i Cn.none) (ss.getD i Cn.none) = true) → eqL rs ss = true) := fun h => eqL_all hn h
      have HNO : Hid (∀ k, k < rs.length → eqR (rs.getD k Cn.none) (ss.getD k Cn.none) = false → eqL rs ss = false) := fun k hk he => eqL_no hk he
      have qn : ((rs.length : Int) != (rs.length : Int)) = false := by simp
      rw [← hn] at hc1' ⊢
      clear hv hu hc hc' hn
      generalize eqL rs ss = lb at *
      go_enter Tryz.func15, Tryz.ntmps15
      go_wp2
      go_loopw [6, 7, 8, 9, 17] (fun rv _ _ _ i wr => ∃ k : Nat, rv = .bool false ∧ i = .int .i64 k ∧ k ≤ rs.length ∧ (∀ q, q < k → eqR (rs.getD q Cn.none) (ss.getD q Cn.none) = true) ∧ Below w.heap.size w wr) (fun _ _ _ _ i _ => rs.length - (intOf i).toNat)
      case atStart => exact ⟨0, rfl, rfl, by omega, fun q h => absurd h (by omega), Below.refl _ _⟩
      case round =>
        obtain ⟨k, rfl, rfl, hk, hq, hbel⟩ := hrel
        by_cases hlt : k < rs.length
        · obtain ⟨hA, hB⟩ := (unhide HC) k hlt wr hbel
          have hL : (k : Int) < rs.length := by omega
          obtain ⟨eb, heb⟩ : ∃ eb, eqR (rs.getD k Cn.none) (ss.getD k Cn.none) = eb := ⟨_, rfl⟩
          have HQ2 : Hid (eb = true → ∀ q, q < k + 1 → eqR (rs.getD q Cn.none) (ss.getD q Cn.none) = true) := fun e q h => by
            rcases Nat.lt_or_ge q k with h1 | h1
            · exact hq q h1
            · rw [show q = k by omega, heb]; exact e
          have HLB : Hid (eb = false → lb = false) := fun e => (unhide HNO) k hlt (heb.trans e)
          clear HC hq HALL HNO
          generalize rs.getD k Cn.none = r at *
          generalize ss.getD k Cn.none = s at *
          obtain ⟨x0, x1, x2, x3, ⟨va, x4, ska⟩, x5, x6, x7⟩ := hA
          obtain ⟨y0, y1, y2, y3, ⟨vb, y4, skb⟩, y5, y6, y7⟩ := hB
          have KR : Hid (∀ o1 o2, Calls Tryz.prog 16 #[recV r va, recV s vb] ((wr.alloc o1).alloc o2) (BoolB ((wr.alloc o1).alloc o2) eb)) := fun o1 o2 => by
            have hbw : Below wr.heap.size wr ((wr.alloc o1).alloc o2) := ((Below.refl _ _).alloc (Nat.le_refl _) _).alloc (by simp) _
            have := sr_p r s va vb _ (ska.below hbw) (skb.below hbw)
            rw [heb] at this; exact this
          unfold recV at KR
          obtain ⟨ao, ca, rfl, _, _⟩ := ska.shape
          obtain ⟨bo, cb, rfl, _, _⟩ := skb.shape
          have hfl : ∀ W a m, (store a (.float .f64 r.wt) m).run Tryz.prog W = stored Tryz.prog W a (.float .f64 r.wt) m := fun W a m => run_store Tryz.prog W a _ m rfl
          have hfl2 : ∀ W a m, (store a (.float .f64 s.wt) m).run Tryz.prog W = stored Tryz.prog W a (.float .f64 s.wt) m := fun W a m => run_store Tryz.prog W a _ m rfl
          have z0 := cell_alloc6 y0
          have z1 := cell_alloc6 y1
          have z2 := cell_alloc6 y2
          have z3 := cell_alloc6 y3
          have z4 := cell_alloc6 y4
          have z5 := cell_alloc6 y5
          have z6 := cell_alloc6 y6
          have z7 := cell_alloc6 y7
          have HBW : Hid (∀ o1 o2 w1, Below ((wr.alloc o1).alloc o2).heap.size ((wr.alloc o1).alloc o2) w1 → Below w.heap.size w w1) := fun o1 o2 w1 h => bthen (bthen hbel (((Below.refl wr.heap.size wr).alloc (Nat.le_refl _) o1).alloc (by simp) o2)) h
          have HBE := hide hbel
          clear ska skb heb hbel
          generalize r.kind = kd at *
          generalize r.n = n at *
          generalize r.lo = lo at *
          generalize r.hi = hi at *
          generalize r.name = nm at *
          generalize r.other = ot at *
          generalize r.wt = wt at *
          generalize r.to.length = tl at *
          generalize s.kind = kd2 at *
          generalize s.n = n2 at *
          generalize s.lo = lo2 at *
          generalize s.hi = hi2 at *
          generalize s.name = nm2 at *
          generalize s.other = ot2 at *
          generalize s.wt = wt2 at *
          generalize s.to.length = tl2 at *
          cases eb with
          | true =>
            have HQ3 := hide ((unhide HQ2) rfl)
            clear HQ2 HLB
            go_wp2_with fail
            refine ((unhide KR) _ _).mono ?_
            rintro e w1 ⟨rfl, b1⟩
            have HB1 := hide ((unhide HBW) _ _ _ b1)
            clear KR b1 HBW z0 z1 z2 z3 z4 z5 z6 z7
            go_wp2
            go_roundw
            case rel => exact ⟨k + 1, rfl, by go_num, by omega, unhide HQ3, unhide HB1⟩
            case measure => simp [intOf]; omega
          | false =>
            have HL3 := hide ((unhide HLB) rfl)
            clear HQ2 HLB
            go_wp2_with fail
            refine ((unhide KR) _ _).mono ?_
            rintro e w1 ⟨rfl, b1⟩
            have HB1 := hide ((unhide HBW) _ _ _ b1)
            clear KR b1 HBW z0 z1 z2 z3 z4 z5 z6 z7
            go_wp2
            go_ret
            exact ⟨by rw [unhide HL3]; rfl, unhide HB1⟩
        · have HLB := hide ((unhide HALL) fun i hi => hq i (by omega))
          have hL : ¬ ((k : Int) < rs.length) := by omega
          have HBE := hide hbel
          clear HC HALL HNO hq hbel
          go_wp2
          go_ret
          exact ⟨by rw [unhide HLB]; rfl, unhide HBE⟩
  · rw [eqL_len hn]
    have hne : ((rs.length : Int) != (ss.length : Int)) = true := by simp; omega
    obtain ⟨ao, cap, rfl, _, _⟩ := hv.shape
    obtain ⟨ao', cap', rfl, _, _⟩ := hu.shape
    clear hv hu hn
    go_enter Tryz.func15, Tryz.ntmps15
    go_wp2
    go_ret
    exact ⟨rfl, Below.refl _ _⟩
set_option maxRecDepth 8000 in
theorem sames_p (v u : Value) (rs ss : List Rec) (w : World) (hv : Rcs w v rs) (hu : Rcs w u ss) : Calls Tryz.prog 7 #[v, u] w (BoolB w (eqL rs ss)) := by
  have K := hide (eqFunc6 v u rs ss w hv hu)
  obtain ⟨ao, cap, rfl, _, _⟩ := hv.shape
  obtain ⟨ao', cap', rfl, _, _⟩ := hu.shape
  clear hv hu
  generalize eqL rs ss = lb at *
  go_enter Tryz.func7, Tryz.ntmps7
  go_wp2_with fail
  refine (unhide K).mono ?_
  rintro e w1 ⟨rfl, b1⟩
  have HB := hide b1
  clear K b1
  go_wp2
  go_ret
  exact ⟨rfl, unhide HB⟩
theorem take_pre6 {α : Type} (l : List α) (m : Nat) : l.take (l.take m).length = l.take m := by
  rw [List.length_take, ← List.take_eq_take_min]
set_option maxRecDepth 20000 in
set_option maxHeartbeats 4000000 in
theorem same_law6 (v : Value) (rs0 : List Rec) (u : Value) (ss0 : List Rec) (w : World) (hg : Glob w) (hs : Sn.Glob w) (hl : Rcs w v rs0) (hm : Rcs w u ss0) : Calls Tryz.prog 3 #[v, u] w (BoolB w true) := by
  obtain ⟨ao, lc, rfl, hc1, hc2⟩ := hl.shape
  obtain ⟨bo, mc, rfl, hd1, hd2⟩ := hm.shape
  have hlen : (rs0.take 60).length ≤ rs0.length := by rw [List.length_take]; omega
  have hlen2 : (ss0.take 60).length ≤ ss0.length := by rw [List.length_take]; omega
  have HPRE := hide (take_pre6 rs0 60)
  have HPRE2 := hide (take_pre6 ss0 60)
  have HFIT : Hid (∀ r ∈ rs0.take 60, RecFit r) := fun r hr => hl.2.1 r (List.mem_of_mem_take hr)
  have HFIT2 : Hid (∀ r ∈ ss0.take 60, RecFit r) := fun r hr => hm.2.1 r (List.mem_of_mem_take hr)
  have hrl : (rs0.take 60).length ≤ 60 := List.length_take_le _ _
  have hsl : (ss0.take 60).length ≤ 60 := List.length_take_le _ _
  have K1 := hide (few_any6 _ rs0 60 w hl (by decide))
  have K2 : Hid (∀ W, Below w.heap.size w W → Calls Tryz.prog 5 #[.slice bo ss0.length mc, .int .i64 ((60 : Nat) : Int)] W (FewQ6 W (ss0.take 60))) := fun W hW => few_any6 _ ss0 60 W (hm.below hW) (by decide)
  have HG := hide hg
  have HS := hide hs
  have HL := hide hl
  have HM := hide hm
  clear hg hs hl hm
  generalize rs0.take 60 = rs at *
  generalize ss0.take 60 = ss at *
  go_enter Tryz.func3, Tryz.ntmps3
  go_wp2_with fail
  refine (unhide K1).mono ?_
  rintro e w1 ⟨g, cap, ps, rfl, hF, b1⟩
  have HR1 := hide (fw_rcs6 hF (by omega) (unhide HFIT))
  have HB1 := hide b1
  clear K1 hF b1
  go_wp2_with fail
  refine ((unhide K2) w1 (unhide HB1)).mono ?_
  rintro e w2 ⟨g2, cap2, ps2, rfl, hF2, b2⟩
  have HR2 := hide ((unhide HR1).below b2)
  have HS2 := hide (fw_rcs6 hF2 (by omega) (unhide HFIT2))
  have HB2 := hide (bthen (unhide HB1) b2)
  have K3 := hide (told_any6 w2 ((unhide HG).on (unhide HB2)) ((unhide HS).on (unhide HB2)))
  clear K2 hF2 b2 HR1 HB1 HG HS
  go_wp2_with fail
  refine (unhide K3).mono ?_
  rintro e w3 ⟨rfl, b3⟩
  have HR3 := hide ((unhide HR2).below b3)
  have HS3 := hide ((unhide HS2).below b3)
  have HB3 := hide (bthen (unhide HB2) b3)
  have K4 := hide (sames_p _ _ rs ss w3 (unhide HR3) (unhide HS3))
  clear K3 b3 HR2 HS2 HB2
  go_wp2_with fail
  refine (unhide K4).mono ?_
  rintro e w4 ⟨rfl, b4⟩
  have HR4 := hide ((unhide HR3).below b4)
  have HS4 := hide ((unhide HS3).below b4)
  have HB4 := hide (bthen (unhide HB3) b4)
  have K5 := hide (sames_d _ _ rs ss w4 (unhide HR4) (unhide HS4))
  clear K4 b4 HR3 HS3 HB3
  generalize eqL rs ss = lb at *
  have hlb : (lb == lb) = true := by simp
  go_wp2_with fail
  refine (unhide K5).mono ?_
  rintro e w5 ⟨rfl, b5⟩
  have HR5 := hide ((unhide HR4).below b5)
  have HS5 := hide ((unhide HS4).below b5)
  have HB5 := hide (bthen (unhide HB4) b5)
  have hH := ((unhide HL).below (unhide HB5)).head (k := rs.length) (by omega)
  rw [unhide HPRE] at hH
  have K6 := hide (sames_p _ _ rs rs w5 (unhide HR5) hH)
  rw [eqL_self] at K6
  clear K5 b5 HR4 HS4 HB4 hH
  have hq1 : rs.length ≤ lc := by omega
  have hq2 : ss.length ≤ mc := by omega
  rcases ao with _ | ao <;> rcases bo with _ | bo
  all_goals
    go_wp2_with fail
    refine (unhide K6).mono ?_
    rintro e w6 ⟨rfl, b6⟩
    have HS6 := hide ((unhide HS5).below b6)
    have HB6 := hide (bthen (unhide HB5) b6)
    have hH := ((unhide HM).below (unhide HB6)).head (k := ss.length) (by omega)
    rw [unhide HPRE2] at hH
    have K7 := hide (sames_p _ _ ss ss w6 (unhide HS6) hH)
    rw [eqL_self] at K7
    clear K6 b6 HS5 HB5 hH
    go_wp2_with fail
    refine (unhide K7).mono ?_
    rintro e w7 ⟨rfl, b7⟩
    have HB7 := hide (bthen (unhide HB6) b7)
    clear K7 b7 HB6
    go_wp2
    go_ret
    exact ⟨rfl, unhide HB7⟩
end Go.Proofs.YtceflkeaenepcaaGreatDoor
