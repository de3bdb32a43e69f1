/- The contract of Ranges. -/
import Derived.Test.YtehdeipeehaejaaTrN4
namespace Go.Proofs.Ytehdeipeehaejaa
open Go.RowKit

set_option maxHeartbeats 2000000 in
theorem ranges4 (t : Value) (rs : List Tri.Rg) (d : Int) (w : World) (h : ∃ B, T4 w B t rs d) : Calls Try.prog 18 #[t] w (RgsPost w (Tri.norm d rs)) := by
  obtain ⟨B, h⟩ := h
  obtain ⟨i0, hi, hz0, hz1, hz2⟩ := info_parts Try.info35
  obtain ⟨d1, d2⟩ := h.2.1
  have HEnd : Hid (∀ l, Tri.Told d (Tri.get d rs) 1114112 l → l = Tri.norm d rs) := fun l hl => Tri.Told.end h.1 hl
  have HFi : Hid (∀ c, 0 ≤ Tri.get d rs c ∧ Tri.get d rs c ≤ 65535) := h.get_ok
  have HG : Hid (∀ (n : Nat) wr, Below w.heap.size w wr → n < 1114112 → Calls Try.prog 13 #[t, .int .i64 (n : Int)] wr (IntDraws wr (Tri.get d rs n))) := fun n wr hb hn => get4 t rs d n wr ⟨B, h.below hb⟩ (by constructor <;> omega)
  obtain ⟨g, iv, bv, rfl, c0, c1, c2, _, _⟩ := h.parts
  have HC : Hid (∀ wx, Below w.heap.size w wx → wx.cell? ⟨g, 2, none⟩ = some (.int .i64 d)) := fun wx hb => by rw [hb.cell (lt_of_cell? c2)]; exact c2
  clear h c0 c1 c2
  generalize Tri.get d rs = f at *
  generalize Tri.norm d rs = res at *
  obtain ⟨M, hM⟩ : ∃ M : Nat, M = 1114112 := ⟨_, rfl⟩
  rw [← hM] at HEnd
  have hM1 : M ≤ 1114112 := by omega
  have hM2 : 1114112 ≤ M := by omega
  clear hM
  go_enter Try.func18, Try.ntmps18
  go_wp2
  go_loopw [3, 7] (fun vo i wr => ∃ (n : Nat) (em : List Tri.Rg) (cur : Option Tri.Rg), i = .int .i64 n ∧ n ≤ M ∧ Or4 wr w.heap.size vo (em ++ cur.toList) ∧ (cur = none → em = []) ∧ Tri.Told d f n (em ++ cur.toList) ∧ Below w.heap.size w wr) (fun _ i _ => M - (intOf i).toNat)
  case atStart => exact ⟨0, [], none, rfl, by omega, Or4.nil _ _, fun _ => rfl, Tri.Told.zero d f, Below.refl _ _⟩
  case round =>
    obtain ⟨n, em, cur, rfl, hn, hor, hcn, htold, hbel⟩ := hrel
    by_cases hlt' : n < M
    · have hlt : n < 1114112 := by omega
      have K1 := hide ((unhide HG) n wr hbel hlt)
      have hin1 : (0 : Int) ≤ (n : Int) := by omega
      have hin2 : (n : Int) < 1114112 := by omega
      obtain ⟨x1, x2⟩ := (unhide HFi) n
      have HT := hide htold
      have hlen := htold.2.2.2.1
      have E1 : Hid (f n = d → Tri.Told d f (n + 1) (em ++ cur.toList)) := fun e => htold.same e
      have E2 : Hid (∀ q, cur = some q → Tri.hi q = (n : Int) - 1 → Tri.vl q = f n → Tri.Told d f (n + 1) (em ++ [(Tri.lo q, (n : Int), Tri.vl q)])) := fun q hq a1 a2 => by subst hq; exact Tri.Told.longer htold hlt a1 a2
      have E3 : Hid (f n ≠ d → (∀ q, cur = some q → ¬ (Tri.hi q = (n : Int) - 1 ∧ Tri.vl q = f n)) → Tri.Told d f (n + 1) ((em ++ cur.toList) ++ [((n : Int), (n : Int), f n)])) := fun a1 a2 => Tri.Told.more htold hlt ((unhide HFi) n) a1 (fun em' q' e => by
        cases cur with
        | none => have := hcn rfl; subst this; simp at e
        | some q =>
          have h9 : em ++ [q] = em' ++ [q'] := e
          have h8 := List.append_inj_right' h9 rfl
          simp only [List.cons.injEq, and_true] at h8
          subst h8
          exact a2 q rfl)
      have HQ : Hid (∀ q, cur = some q → 0 ≤ Tri.hi q ∧ Tri.hi q < (n : Int) ∧ 0 ≤ Tri.vl q ∧ Tri.vl q ≤ 65535) := fun q hq => by
        subst hq
        have h9 := Tri.val_last htold.1
        have h8 := htold.2.2.1 q (by simp)
        exact ⟨by omega, h8, h9.2.2.2.1, h9.2.2.2.2⟩
      clear htold HT
      generalize f n = x at *
      have hnn : (Tri.lo ((n : Int), (n : Int), x)) = n := rfl
      clear hnn
      by_cases hxd : x = d
      · have HT2 := hide ((unhide E1) hxd)
        clear E1 E2 E3 HQ
        obtain ⟨ao, cp, hvo, _, _⟩ := hor.sr.shape
        subst hvo
        have hll : (em ++ cur.toList).length ≤ 1114112 := by omega
        have e1 : (x == d) = true := beq_iff_eq.2 hxd
        go_wp2_with fail
        refine (unhide K1).mono ?_
        rintro e w1 ⟨rfl, mq, rfl⟩
        clear K1
        have hbq := below_drewN hbel mq
        have c2 := (unhide HC) _ hbq
        have horq := hor.below (below_drewN (Below.refl _ _) mq)
        clear hbel hor
        generalize wr.drewN mq = wq at *
        go_wp2
        go_roundw
        case rel => exact ⟨n + 1, em, cur, by go_num, by omega, by simpa using horq, hcn, unhide HT2, hbq⟩
        case measure => simp [intOf]; omega
      · have e1 : (x == d) = false := beq_eq_false_iff_ne.2 hxd
        cases cur with
        | none =>
          have hem := hcn rfl
          subst hem
          have HT2 := hide ((unhide E3) hxd (fun q h => by cases h))
          have hrow0 := hor.2.2
          obtain ⟨ao, cp, hvo, _, _⟩ := hor.sr.shape
          subst hvo
          have hrow : wr.ownsRow w.heap.size 35 3 (.slice ao 0 cp) 0 [] := hrow0
          clear E1 E2 E3 HQ hor hrow0
          go_wp2_with fail
          refine (unhide K1).mono ?_
          rintro e w1 ⟨rfl, mq, rfl⟩
          clear K1
          have hrow := row_below3 hrow (below_drewN (Below.refl _ _) mq)
          have hbel := below_drewN hbel mq
          have hszw := hbel.size
          have hr3 := cell3_new (wr.drewN mq) ((n : Int), (n : Int), x)
          have hfr : FitR [((n : Int), (n : Int), x)] := FitR.one ⟨by simp only [Tri.lo_mk, Fi]; omega, by simp only [Tri.hi_mk, Fi]; omega, by simp only [Tri.vl_mk, Fi]; omega⟩
          have c2 := (unhide HC) _ hbel
          generalize wr.drewN mq = wq at *
          go_wp2_with (at_builtin; refine wpList_append_own _ rfl (.tmp 16) (.tmp 21) 22 rfl w.heap.size 35 i0 (.agg #[.int .i64 0, .int .i64 0, .int .i64 0]) 3 24 Try.underlying22 hi hz0 hz1 hz2 rfl (by decide) _ _ _ rfl (hrow.alloc _) ⟨wq.heap.size, 0, none⟩ 1 1 (rcells [((n : Int), (n : Int), x)]) rfl rfl hr3 (rcells_one [((n : Int), (n : Int), x)]) (by unfold maxLen; omega) (by omega) (by simp; omega) ?_)
          intro v9 w9 hr9 hg9 _
          have hb9 : Below w.heap.size w w9 := below_append3 hszw hrow hbel hg9
          have ok9 : Or4 w9 w.heap.size v9 ([] ++ [((n : Int), (n : Int), x)]) := Or4.of (hfr) (by simp <;> omega) hr9 (by simp) (by first | rfl | exact (rcells_app _ _).symm)
          clear hr9 hg9 hrow hbel
          go_wp2
          go_roundw
          case rel => exact ⟨n + 1, [], some ((n : Int), (n : Int), x), by go_num, by omega, ok9, (fun h => by cases h), unhide HT2, hb9⟩
          case measure => simp [intOf]; omega
        | some q =>
          obtain ⟨q1, q2, q3, q4⟩ := (unhide HQ) q rfl
          have hor2 : Or4 wr w.heap.size _ (em ++ [q]) := hor
          have hlenq : (em ++ [q]).length = em.length + 1 := by simp
          have hle2 : em.length + 1 ≤ n := by have : (em ++ [q]).length ≤ n := hlen; omega
          have hrow := hor2.2.2
          rw [hlenq] at hrow
          obtain ⟨gg, cp, hvo, _, _⟩ := own_shape3 hrow (by omega)
          subst hvo
          have hcells : ∀ wx : World, wx.ownsRow w.heap.size 35 3 (.slice (some ⟨gg, 0, none⟩) (em.length + 1) cp) (em.length + 1) (rcells (em ++ [q])) → wx.cell? ⟨gg, em.length * 3 + 1, none⟩ = some (.int .i64 (Tri.hi q)) ∧ wx.cell? ⟨gg, em.length * 3 + 2, none⟩ = some (.int .i64 (Tri.vl q)) := by
            intro wx h
            have e2 := rcells_at (em ++ [q]) em.length (by simp)
            have e3 : (em ++ [q]).getD em.length (0, 0, 0) = q := by simp [List.getD]
            have hl3 := rcells_len (em ++ [q])
            rw [e3] at e2
            rw [hlenq] at hl3
            constructor
            · rw [h.cellAt (em.length * 3 + 1) (by omega), ← e2.2.1]; simp [List.getD, show em.length * 3 + 1 < (rcells (em ++ [q])).length by omega]
            · rw [h.cellAt (em.length * 3 + 2) (by omega), ← e2.2.2]; simp [List.getD, show em.length * 3 + 2 < (rcells (em ++ [q])).length by omega]
          have HCL := hide hcells
          have hfq : FitR (em ++ [q]) := hor2.1
          have hj1 : (0 : Int) ≤ ((em.length : Nat) : Int) := by omega
          have hj2 : ((em.length + 1 : Nat) : Int) - 1 = (em.length : Int) := by omega
          have A1 := (unhide E2) q rfl
          have A2 := (unhide E3) hxd
          clear E1 E2 E3 HQ hor hor2 hcells hcn hlen
          by_cases m1 : Tri.hi q = (n : Int) - 1
          · have m1' : (Tri.hi q == (n : Int) - 1) = true := beq_iff_eq.2 m1
            by_cases m2 : Tri.vl q = x
            · have m2' : (Tri.vl q == x) = true := beq_iff_eq.2 m2
              have HT2 := hide (A1 m1 m2)
              clear A1 A2 m1 m2
              go_wp2_with fail
              refine (unhide K1).mono ?_
              rintro e w1 ⟨rfl, mq, rfl⟩
              clear K1
              have hrow := row_below3 hrow (below_drewN (Below.refl _ _) mq)
              have hbel := below_drewN hbel mq
              have c2 := (unhide HC) _ hbel
              generalize wr.drewN mq = wq at *
              obtain ⟨g1, g2⟩ := (unhide HCL) wq hrow
              have hfz := hrow.frozenAt (em.length * 3 + 1)
              have ST := (hrow.stored (em.length * 3 + 1) (.int .i64 (n : Int))).1
              rw [rcells_set] at ST
              have hgb := (hrow.lt gg rfl).1
              have hb9 : Below w.heap.size w (wq.setCell ⟨gg, em.length * 3 + 1, none⟩ (.int .i64 (n : Int))) := hbel.setCell (by exact hgb) _
              have ok9 : Or4 (wq.setCell ⟨gg, em.length * 3 + 1, none⟩ (.int .i64 (n : Int))) w.heap.size (.slice (some ⟨gg, 0, none⟩) (em.length + 1) cp) (em ++ (some (Tri.lo q, (n : Int), Tri.vl q)).toList) := by
                refine Or4.of ?_ (by simp; omega) ST (by simp) rfl
                have hq := hfq q (by simp)
                exact FitR.app (fun x hx => hfq x (by simp [hx])) (FitR.one ⟨hq.1, by simp only [Tri.hi_mk, Fi]; omega, hq.2.2⟩)
              clear ST hrow hbel
              go_wp2
              go_roundw
              case rel => exact ⟨n + 1, em, some (Tri.lo q, (n : Int), Tri.vl q), by go_num, by omega, ok9, (fun h => by cases h), unhide HT2, hb9⟩
              case measure => simp [intOf]; omega
            · have m2' : (Tri.vl q == x) = false := beq_eq_false_iff_ne.2 m2
              have HT2 := hide (A2 (fun q' h hx => by cases h; exact m2 hx.2))
              clear A1 A2 m1 m2
              go_wp2_with fail
              refine (unhide K1).mono ?_
              rintro e w1 ⟨rfl, mq, rfl⟩
              clear K1
              have hrow := row_below3 hrow (below_drewN (Below.refl _ _) mq)
              have hbel := below_drewN hbel mq
              have hszw := hbel.size
              have hr3 := cell3_new (wr.drewN mq) ((n : Int), (n : Int), x)
              have hfr : FitR [((n : Int), (n : Int), x)] := FitR.one ⟨by simp only [Tri.lo_mk, Fi]; omega, by simp only [Tri.hi_mk, Fi]; omega, by simp only [Tri.vl_mk, Fi]; omega⟩
              have c2 := (unhide HC) _ hbel
              obtain ⟨g1, g2⟩ := (unhide HCL) _ hrow
              generalize wr.drewN mq = wq at *
              go_wp2_with (at_builtin; refine wpList_append_own _ rfl (.tmp 16) (.tmp 21) 22 rfl w.heap.size 35 i0 (.agg #[.int .i64 0, .int .i64 0, .int .i64 0]) 3 24 Try.underlying22 hi hz0 hz1 hz2 rfl (by decide) _ _ _ rfl (hrow.alloc _) ⟨wq.heap.size, 0, none⟩ 1 1 (rcells [((n : Int), (n : Int), x)]) rfl rfl hr3 (rcells_one [((n : Int), (n : Int), x)]) (by unfold maxLen; omega) (by omega) (by simp; omega) ?_)
              intro v9 w9 hr9 hg9 _
              have hb9 : Below w.heap.size w w9 := below_append3 hszw hrow hbel hg9
              have ok9 : Or4 w9 w.heap.size v9 ((em ++ [q]) ++ [((n : Int), (n : Int), x)]) := Or4.of (hfq.app hfr) (by simp <;> omega) hr9 (by simp) (by first | rfl | exact (rcells_app _ _).symm)
              clear hr9 hg9 hrow hbel
              go_wp2
              go_roundw
              case rel => exact ⟨n + 1, (em ++ [q]), some ((n : Int), (n : Int), x), by go_num, by omega, ok9, (fun h => by cases h), unhide HT2, hb9⟩
              case measure => simp [intOf]; omega
          · have m1' : (Tri.hi q == (n : Int) - 1) = false := beq_eq_false_iff_ne.2 m1
            have HT2 := hide (A2 (fun q' h hx => by cases h; exact m1 hx.1))
            clear A1 A2 m1
            go_wp2_with fail
            refine (unhide K1).mono ?_
            rintro e w1 ⟨rfl, mq, rfl⟩
            clear K1
            have hrow := row_below3 hrow (below_drewN (Below.refl _ _) mq)
            have hbel := below_drewN hbel mq
            have hszw := hbel.size
            have hr3 := cell3_new (wr.drewN mq) ((n : Int), (n : Int), x)
            have hfr : FitR [((n : Int), (n : Int), x)] := FitR.one ⟨by simp only [Tri.lo_mk, Fi]; omega, by simp only [Tri.hi_mk, Fi]; omega, by simp only [Tri.vl_mk, Fi]; omega⟩
            have c2 := (unhide HC) _ hbel
            obtain ⟨g1, g2⟩ := (unhide HCL) _ hrow
            generalize wr.drewN mq = wq at *
            go_wp2_with (at_builtin; refine wpList_append_own _ rfl (.tmp 16) (.tmp 21) 22 rfl w.heap.size 35 i0 (.agg #[.int .i64 0, .int .i64 0, .int .i64 0]) 3 24 Try.underlying22 hi hz0 hz1 hz2 rfl (by decide) _ _ _ rfl (hrow.alloc _) ⟨wq.heap.size, 0, none⟩ 1 1 (rcells [((n : Int), (n : Int), x)]) rfl rfl hr3 (rcells_one [((n : Int), (n : Int), x)]) (by unfold maxLen; omega) (by omega) (by simp; omega) ?_)
            intro v9 w9 hr9 hg9 _
            have hb9 : Below w.heap.size w w9 := below_append3 hszw hrow hbel hg9
            have ok9 : Or4 w9 w.heap.size v9 ((em ++ [q]) ++ [((n : Int), (n : Int), x)]) := Or4.of (hfq.app hfr) (by simp <;> omega) hr9 (by simp) (by first | rfl | exact (rcells_app _ _).symm)
            clear hr9 hg9 hrow hbel
            go_wp2
            go_roundw
            case rel => exact ⟨n + 1, (em ++ [q]), some ((n : Int), (n : Int), x), by go_num, by omega, ok9, (fun h => by cases h), unhide HT2, hb9⟩
            case measure => simp [intOf]; omega
    · obtain rfl : n = M := by omega
      have hin3 : ¬ ((n : Int) < 1114112) := by omega
      have hres := (unhide HEnd) _ htold
      subst hres
      clear HEnd HFi HG HC
      go_wp2
      go_ret
      exact ⟨_, rfl, hor, hbel⟩
end Go.Proofs.Ytehdeipeehaejaa
