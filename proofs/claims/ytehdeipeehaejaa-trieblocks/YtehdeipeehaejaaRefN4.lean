/- The contract of the document's own Ranges. -/
import Derived.Test.YtehdeipeehaejaaFew4
namespace Go.Proofs.Ytehdeipeehaejaa
open Go.RowKit

theorem val_at {b : Int} {rs : List Tri.Rg} (h : Tri.Val b rs) (hb : 0 ≤ b) (k : Nat) (hk : k < rs.length) : 0 ≤ Tri.lo (rs.getD k (0, 0, 0)) ∧ Tri.lo (rs.getD k (0, 0, 0)) ≤ Tri.hi (rs.getD k (0, 0, 0)) ∧ Tri.hi (rs.getD k (0, 0, 0)) ≤ 1114111 ∧ 0 ≤ Tri.vl (rs.getD k (0, 0, 0)) ∧ Tri.vl (rs.getD k (0, 0, 0)) ≤ 65535 := by
  induction rs generalizing b k with
  | nil => simp at hk
  | cons r rs ih =>
    obtain ⟨h1, h2, h3, h4, h5, h6⟩ := h
    cases k with
    | zero => exact ⟨Int.le_trans hb h1, h2, h3, h4, h5⟩
    | succ k => exact ih h6 (by omega) k (by simpa using hk)

theorem norm_step {d : Int} {rs : List Tri.Rg} {k : Nat} (hk : k < rs.length) (cur : Option Tri.Rg) : Tri.normA d cur (rs.drop k) =
    if Tri.vl (rs.getD k (0, 0, 0)) = d then Tri.normA d cur (rs.drop (k + 1))
    else match cur with
      | none => Tri.normA d (some (rs.getD k (0, 0, 0))) (rs.drop (k + 1))
      | some q => if Tri.vl q = Tri.vl (rs.getD k (0, 0, 0)) ∧ Tri.hi q + 1 = Tri.lo (rs.getD k (0, 0, 0)) then Tri.normA d (some (Tri.lo q, Tri.hi (rs.getD k (0, 0, 0)), Tri.vl q)) (rs.drop (k + 1)) else q :: Tri.normA d (some (rs.getD k (0, 0, 0))) (rs.drop (k + 1)) := by
  rw [List.drop_eq_getElem_cons hk]
  have e : rs.getD k (0, 0, 0) = rs[k] := by simp [List.getD, hk]
  rw [e]
  cases cur with
  | none => simp only [Tri.normA]
  | some q => simp only [Tri.normA]

theorem rcells_set (em : List Tri.Rg) (q : Tri.Rg) (h : Int) : (rcells (em ++ [q])).set (em.length * 3 + 1) (.int .i64 h) = rcells (em ++ [(Tri.lo q, h, Tri.vl q)]) := by
  rw [rcells_app, rcells_app, List.set_append_right _ _ (by rw [rcells_len]; omega), rcells_len]
  rw [show em.length * 3 + 1 - em.length * 3 = 1 by omega]
  rfl

theorem FitR.app {a b : List Tri.Rg} (h : FitR a) (k : FitR b) : FitR (a ++ b) := by
  intro r hr
  rcases List.mem_append.1 hr with hr | hr
  · exact h r hr
  · exact k r hr
theorem FitR.one {r : Tri.Rg} (h : Fi (Tri.lo r) ∧ Fi (Tri.hi r) ∧ Fi (Tri.vl r)) : FitR [r] := by
  intro s hs
  simp at hs; subst hs; exact h

def RgsPost (w : World) (rs : List Tri.Rg) (e : Ending) (w' : World) : Prop := ∃ v, e = .returned v ∧ Or4 w' w.heap.size v rs ∧ Below w.heap.size w w'

theorem cell3_new (w : World) (r : Tri.Rg) : ∀ (j : Nat) (u : Value), (rcells [r])[j]? = some u → (w.alloc (.cells #[.int .i64 (Tri.lo r), .int .i64 (Tri.hi r), .int .i64 (Tri.vl r)] 35)).cell? ((⟨w.heap.size, 0, none⟩ : Addr).add j) = some u := by
  intro j u hj
  match j, hj with
  | 0, hj => simp [rcells, rcell] at hj; subst hj; simp [Addr.add]
  | 1, hj => simp [rcells, rcell] at hj; subst hj; simp [Addr.add]
  | 2, hj => simp [rcells, rcell] at hj; subst hj; simp [Addr.add]
  | j + 3, hj => simp [rcells, rcell] at hj

set_option maxHeartbeats 4000000 in
theorem refRanges_any (v : Value) (rs : List Tri.Rg) (d : Int) (w : World) (hv : Sr w v rs) (hval : Tri.Val 0 rs) (hl : rs.length ≤ 1000000) (hd : Fi d) :
    Calls Try.prog 20 #[v, .int .i64 d] w (RgsPost w (Tri.norm d rs)) := by
  obtain ⟨i0, hi, hz0, hz1, hz2⟩ := info_parts Try.info35
  obtain ⟨hd1, hd2⟩ := hd
  rcases Nat.eq_zero_or_pos rs.length with h0 | h0
  · have hg : Tri.norm d rs = [] := by rw [List.eq_nil_of_length_eq_zero h0]; rfl
    obtain ⟨ao, cap, rfl, _, _⟩ := hv.shape
    rw [hg, h0]
    go_enter Try.func20, Try.ntmps20
    go_wp2
    refine wp_loop_rounds 1 ?_
    rw [rounds_succ]
    go_wp2
    go_ret
    exact ⟨_, rfl, Or4.nil _ _, Below.refl _ _⟩
  · obtain ⟨b, off, cap, rfl, hk1, hk2, hcl⟩ := hv.place h0
    have HC : Hid (∀ wx, Below w.heap.size w wx → ∀ i, i < rs.length →
      wx.cell? ⟨b, off + i * 3, none⟩ = some (.int .i64 (Tri.lo (rs.getD i (0, 0, 0)))) ∧ wx.cell? ⟨b, off + i * 3 + 1, none⟩ = some (.int .i64 (Tri.hi (rs.getD i (0, 0, 0)))) ∧ wx.cell? ⟨b, off + i * 3 + 2, none⟩ = some (.int .i64 (Tri.vl (rs.getD i (0, 0, 0))))) := by
      intro wx hb i hi
      obtain ⟨c0, c1, c2⟩ := hcl i hi
      exact ⟨by rw [hb.cell (lt_of_cell? c0)]; exact c0, by rw [hb.cell (lt_of_cell? c1)]; exact c1, by rw [hb.cell (lt_of_cell? c2)]; exact c2⟩
    have HV := hide hval
    clear hv hcl hval
    generalize hg : Tri.norm d rs = res at *
    have HG := hide hg
    clear hg
    go_enter Try.func20, Try.ntmps20
    go_wp2
    go_loopw [5, 6] (fun vo i wr => ∃ (k : Nat) (em : List Tri.Rg) (cur : Option Tri.Rg), i = .int .i64 k ∧ k ≤ rs.length ∧ Or4 wr w.heap.size vo (em ++ cur.toList) ∧ (em ++ cur.toList).length ≤ k ∧ (cur = none → em = []) ∧ (∀ q, cur = some q → Tri.hi q ≤ 1114111 ∧ 0 ≤ Tri.hi q) ∧ Below w.heap.size w wr ∧ res = em ++ Tri.normA d cur (rs.drop k)) (fun _ i _ => rs.length - (intOf i).toNat)
    case atStart => exact ⟨0, [], none, rfl, by omega, Or4.nil _ _, by simp, fun _ => rfl, (fun q h => by cases h), Below.refl _ _, by rw [List.drop_zero]; exact (unhide HG).symm⟩
    case round =>
      obtain ⟨k, em, cur, rfl, hk, hor, hle, hcn, hcq, hbel, hres⟩ := hrel
      by_cases hlt : k < rs.length
      · obtain ⟨c0, c1, c2⟩ := (unhide HC) _ hbel k hlt
        obtain ⟨b1, b2, b3, b4, b5⟩ := val_at (unhide HV) (Int.le_refl _) k hlt
        rw [norm_step hlt] at hres
        have HS := hide hres
        have hszw := hbel.size
        clear hres
        have HCk := hide (fun wx hb => (unhide HC) wx hb k hlt)
        generalize hrk : rs.getD k (0, 0, 0) = r at *
        clear hrk
        have hfr : FitR [r] := FitR.one ⟨by unfold Fi; omega, by unfold Fi; omega, by unfold Fi; omega⟩
        have hr3 := cell3_new wr r
        by_cases hvd : Tri.vl r = d
        · have HS2 : Hid (res = em ++ Tri.normA d cur (rs.drop (k + 1))) := by have := unhide HS; rw [if_pos hvd] at this; exact this
          have e1 : (Tri.vl r == d) = true := beq_iff_eq.2 hvd
          obtain ⟨ao, cp, hvo, _, _⟩ := hor.sr.shape
          subst hvo
          clear HS hvd hr3
          go_wp2
          go_roundw
          case rel => exact ⟨k + 1, em, cur, by go_num, by omega, hor, by omega, hcn, hcq, hbel, unhide HS2⟩
          case measure => simp [intOf]; omega
        · have e1 : (Tri.vl r == d) = false := beq_eq_false_iff_ne.2 hvd
          cases cur with
          | none =>
            have hem := hcn rfl
            subst hem
            have HS2 : Hid (res = [] ++ Tri.normA d (some r) (rs.drop (k + 1))) := by have := unhide HS; rw [if_neg hvd] at this; exact this
            have hrow0 := hor.2.2
            obtain ⟨ao, cp, hvo, _, _⟩ := hor.sr.shape
            subst hvo
            have hrow : wr.ownsRow w.heap.size 35 3 (.slice ao 0 cp) 0 [] := hrow0
            clear HS hvd hor hrow0
            go_wp2
            go_quiet (fail)
            have hrow := row_below3 hrow (below_drewN (Below.refl _ _) nq)
            have hbel := below_drewN hbel nq
            have hszw := hbel.size
            have hr3 := cell3_new (wr.drewN nq) r
            obtain ⟨c0, c1, c2⟩ := (unhide HCk) _ hbel
            generalize wr.drewN nq = wq at *
            go_wp2_with (at_builtin; refine wpList_append_own _ rfl (.tmp 16) (.tmp 21) 22 rfl w.heap.size 35 i0 (.agg #[.int .i64 0, .int .i64 0, .int .i64 0]) 3 24 Try.underlying22 hi hz0 hz1 hz2 rfl (by decide) _ _ _ rfl (hrow.alloc _) ⟨wq.heap.size, 0, none⟩ 1 1 (rcells [r]) rfl rfl hr3 (rcells_one [r]) (by unfold maxLen; omega) (by omega) (by simp; omega) ?_)
            intro v9 w9 hr9 hg9 _
            have hb9 : Below w.heap.size w w9 := below_append3 hszw hrow hbel hg9
            have ok9 : Or4 w9 w.heap.size v9 ([] ++ (some r).toList) := Or4.of hfr (by simp) hr9 rfl rfl
            clear hr9 hg9 hrow hbel
            go_wp2
            go_roundw
            case rel => exact ⟨k + 1, [], some r, by go_num, by omega, ok9, by simp, (fun h => by cases h), (fun q h => by cases h; omega), hb9, unhide HS2⟩
            case measure => simp [intOf]; omega
          | some q =>
            have hor2 : Or4 wr w.heap.size _ (em ++ [q]) := hor
            have hlen : (em ++ [q]).length = em.length + 1 := by simp
            have hle2 : em.length + 1 ≤ k := by have : (em ++ [q]).length ≤ k := hle; omega
            have hrow := hor2.2.2
            rw [hlen] at hrow
            obtain ⟨g, cp, hvo, _, _⟩ := own_shape3 hrow (by omega)
            subst hvo
            obtain ⟨hq1, hq2⟩ := hcq q rfl
            have hcells : ∀ wx : World, wx.ownsRow w.heap.size 35 3 (.slice (some ⟨g, 0, none⟩) (em.length + 1) cp) (em.length + 1) (rcells (em ++ [q])) → wx.cell? ⟨g, em.length * 3 + 1, none⟩ = some (.int .i64 (Tri.hi q)) ∧ wx.cell? ⟨g, em.length * 3 + 2, none⟩ = some (.int .i64 (Tri.vl q)) := by
              intro wx h
              have e2 := rcells_at (em ++ [q]) em.length (by simp)
              have e3 : (em ++ [q]).getD em.length (0, 0, 0) = q := by simp [List.getD]
              have hl3 := rcells_len (em ++ [q])
              rw [e3] at e2
              rw [hlen] at hl3
              constructor
              · rw [h.cellAt (em.length * 3 + 1) (by omega), ← e2.2.1]; simp [List.getD, show em.length * 3 + 1 < (rcells (em ++ [q])).length by omega]
              · rw [h.cellAt (em.length * 3 + 2) (by omega), ← e2.2.2]; simp [List.getD, show em.length * 3 + 2 < (rcells (em ++ [q])).length by omega]
            obtain ⟨g1, g2⟩ := hcells wr hrow
            have HCL := hide hcells
            have hfq : FitR (em ++ [q]) := hor2.1
            have hin1 : (0 : Int) < ((em.length + 1 : Nat) : Int) := by omega
            have hin2 : ((em.length + 1 : Nat) : Int) - 1 = (em.length : Int) := by omega
            have HS3 := unhide HS
            rw [if_neg hvd] at HS3
            simp only at HS3
            have HS4 := hide HS3
            have hqf := hfq q (by simp)
            obtain ⟨_, _, q5, q6⟩ := hqf
            clear HS HS3 hvd hor hor2 hcells hcn hcq hle
            by_cases m1 : Tri.vl q = Tri.vl r
            · by_cases m2 : Tri.hi q + 1 = Tri.lo r
              · have HS2 : Hid (res = em ++ Tri.normA d (some (Tri.lo q, Tri.hi r, Tri.vl q)) (rs.drop (k + 1))) := by have := unhide HS4; rw [if_pos ⟨m1, m2⟩] at this; exact this
                have m1' : (Tri.vl q == Tri.vl r) = true := beq_iff_eq.2 m1
                have m2' : (Tri.hi q + 1 == Tri.lo r) = true := beq_iff_eq.2 m2
                clear HS4 m1 m2
                go_wp2
                go_quiet (fail)
                have hrow := row_below3 hrow (below_drewN (Below.refl _ _) nq)
                have hbel := below_drewN hbel nq
                have hszw := hbel.size
                obtain ⟨c0, c1, c2⟩ := (unhide HCk) _ hbel
                generalize wr.drewN nq = wq at *
                obtain ⟨g1, g2⟩ := (unhide HCL) wq hrow
                have hfz := hrow.frozenAt (em.length * 3 + 1)
                have ST := (hrow.stored (em.length * 3 + 1) (.int .i64 (Tri.hi r))).1
                rw [rcells_set] at ST
                have hgb := (hrow.lt g rfl).1
                have hb9 : Below w.heap.size w (wq.setCell ⟨g, em.length * 3 + 1, none⟩ (.int .i64 (Tri.hi r))) := hbel.setCell (by exact hgb) _
                have ok9 : Or4 (wq.setCell ⟨g, em.length * 3 + 1, none⟩ (.int .i64 (Tri.hi r))) w.heap.size (.slice (some ⟨g, 0, none⟩) (em.length + 1) cp) (em ++ (some (Tri.lo q, Tri.hi r, Tri.vl q)).toList) := by
                  refine Or4.of ?_ (by simp; omega) ST (by simp) rfl
                  have hq := hfq q (by simp)
                  exact FitR.app (fun x hx => hfq x (by simp [hx])) (FitR.one ⟨hq.1, (hfr r (by simp)).2.1, hq.2.2⟩)
                clear ST hrow hbel
                go_wp2
                go_roundw
                case rel => exact ⟨k + 1, em, some (Tri.lo q, Tri.hi r, Tri.vl q), by go_num, by omega, ok9, by simp; omega, (fun h => by cases h), (fun x h => by cases h; simp only [Tri.hi_mk]; omega), hb9, unhide HS2⟩
                case measure => simp [intOf]; omega
              · have HS2 : Hid (res = (em ++ [q]) ++ Tri.normA d (some r) (rs.drop (k + 1))) := by have := unhide HS4; rw [if_neg (fun e => m2 e.2)] at this; exact hide (this.trans (by simp))
                have m1' : (Tri.vl q == Tri.vl r) = true := beq_iff_eq.2 m1
                have m2' : (Tri.hi q + 1 == Tri.lo r) = false := beq_eq_false_iff_ne.2 m2
                clear HS4 m1 m2
                go_wp2
                go_quiet (fail)
                have hrow := row_below3 hrow (below_drewN (Below.refl _ _) nq)
                have hbel := below_drewN hbel nq
                have hszw := hbel.size
                have hr3 := cell3_new (wr.drewN nq) r
                obtain ⟨c0, c1, c2⟩ := (unhide HCk) _ hbel
                generalize wr.drewN nq = wq at *
                go_wp2_with (at_builtin; refine wpList_append_own _ rfl (.tmp 16) (.tmp 21) 22 rfl w.heap.size 35 i0 (.agg #[.int .i64 0, .int .i64 0, .int .i64 0]) 3 24 Try.underlying22 hi hz0 hz1 hz2 rfl (by decide) _ _ _ rfl (hrow.alloc _) ⟨wq.heap.size, 0, none⟩ 1 1 (rcells [r]) rfl rfl hr3 (rcells_one [r]) (by unfold maxLen; omega) (by omega) (by simp; omega) ?_)
                intro v9 w9 hr9 hg9 _
                have hb9 : Below w.heap.size w w9 := below_append3 hszw hrow hbel hg9
                have ok9 : Or4 w9 w.heap.size v9 ((em ++ [q]) ++ (some r).toList) := Or4.of (hfq.app hfr) (by simp; omega) hr9 (by simp) (by rw [rcells_app (em ++ [q])]; rfl)
                clear hr9 hg9 hrow hbel
                go_wp2
                go_roundw
                case rel => exact ⟨k + 1, em ++ [q], some r, by go_num, by omega, ok9, by simp; omega, (fun h => by cases h), (fun x h => by cases h; omega), hb9, unhide HS2⟩
                case measure => simp [intOf]; omega
            · have HS2 : Hid (res = (em ++ [q]) ++ Tri.normA d (some r) (rs.drop (k + 1))) := by have := unhide HS4; rw [if_neg (fun e => m1 e.1)] at this; exact hide (this.trans (by simp))
              have m1' : (Tri.vl q == Tri.vl r) = false := beq_eq_false_iff_ne.2 m1
              clear HS4 m1
              go_wp2
              go_quiet (fail)
              have hrow := row_below3 hrow (below_drewN (Below.refl _ _) nq)
              have hbel := below_drewN hbel nq
              have hszw := hbel.size
              have hr3 := cell3_new (wr.drewN nq) r
              obtain ⟨c0, c1, c2⟩ := (unhide HCk) _ hbel
              generalize wr.drewN nq = wq at *
              go_wp2_with (at_builtin; refine wpList_append_own _ rfl (.tmp 16) (.tmp 21) 22 rfl w.heap.size 35 i0 (.agg #[.int .i64 0, .int .i64 0, .int .i64 0]) 3 24 Try.underlying22 hi hz0 hz1 hz2 rfl (by decide) _ _ _ rfl (hrow.alloc _) ⟨wq.heap.size, 0, none⟩ 1 1 (rcells [r]) rfl rfl hr3 (rcells_one [r]) (by unfold maxLen; omega) (by omega) (by simp; omega) ?_)
              intro v9 w9 hr9 hg9 _
              have hb9 : Below w.heap.size w w9 := below_append3 hszw hrow hbel hg9
              have ok9 : Or4 w9 w.heap.size v9 ((em ++ [q]) ++ (some r).toList) := Or4.of (hfq.app hfr) (by simp; omega) hr9 (by simp) (by rw [rcells_app (em ++ [q])]; rfl)
              clear hr9 hg9 hrow hbel
              go_wp2
              go_roundw
              case rel => exact ⟨k + 1, em ++ [q], some r, by go_num, by omega, ok9, by simp; omega, (fun h => by cases h), (fun x h => by cases h; omega), hb9, unhide HS2⟩
              case measure => simp [intOf]; omega
      · have hres2 : res = em ++ cur.toList := by rw [hres, List.drop_eq_nil_of_le (by omega)]; cases cur <;> rfl
        subst hres2
        clear hres HG HC
        go_wp2
        go_ret
        exact ⟨_, rfl, hor, hbel⟩
end Go.Proofs.Ytehdeipeehaejaa
