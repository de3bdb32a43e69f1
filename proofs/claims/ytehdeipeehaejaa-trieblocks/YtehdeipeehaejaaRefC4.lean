/- The contract of the document's own Check. -/
import Derived.Test.YtehdeipeehaejaaRefG4
import Derived.Deep.QuietTactic
import Derived.BigQuiet
namespace Go.Proofs.Ytehdeipeehaejaa
open Go.RowKit

def TwoPost (w : World) (r : Int × Int) (e : Ending) (w' : World) : Prop := e = .returned (.tuple #[.int .i64 r.1, .int .i64 r.2]) ∧ Below w.heap.size w w'
theorem TwoPost.mk {w w' : World} {r : Int × Int} {a b : Int} (h : r = (a, b)) (hb : Below w.heap.size w w') : TwoPost w r (.returned (.tuple #[.int .i64 a, .int .i64 b])) w' := by subst h; exact ⟨rfl, hb⟩

/-- The end of the range ahead. -/
def prv (rs : List Tri.Rg) : Nat → Option Int
  | 0 => none
  | k + 1 => some (Tri.hi (rs.getD k (0, 0, 0)))

theorem check_step {d : Int} {rs : List Tri.Rg} {k : Nat} (hk : k < rs.length) : Tri.checkA d k (prv rs k) (rs.drop k) = if Tri.bad (prv rs k) (rs.getD k (0, 0, 0)) = 0 then Tri.checkA d (k + 1) (prv rs (k + 1)) (rs.drop (k + 1)) else ((k : Int), Tri.bad (prv rs k) (rs.getD k (0, 0, 0))) := by
  rw [List.drop_eq_getElem_cons hk]
  have e : rs.getD k (0, 0, 0) = rs[k] := by simp [List.getD, hk]
  have e2 : prv rs (k + 1) = some (Tri.hi rs[k]) := by rw [← e]; rfl
  rw [e2, e]
  generalize prv rs k = p
  simp only [Tri.checkA]

theorem bad_range {p : Option Int} {r : Tri.Rg} (h : Tri.lo r < 0 ∨ 1114111 < Tri.hi r ∨ Tri.hi r < Tri.lo r) : Tri.bad p r = 40 := by unfold Tri.bad; rw [if_pos h]
theorem bad_value {p : Option Int} {r : Tri.Rg} (h : ¬ (Tri.lo r < 0 ∨ 1114111 < Tri.hi r ∨ Tri.hi r < Tri.lo r)) (h2 : Tri.vl r < 0 ∨ 65535 < Tri.vl r) : Tri.bad p r = 42 := by unfold Tri.bad; rw [if_neg h, if_pos h2]
theorem bad_order {x : Int} {r : Tri.Rg} (h : ¬ (Tri.lo r < 0 ∨ 1114111 < Tri.hi r ∨ Tri.hi r < Tri.lo r)) (h2 : ¬ (Tri.vl r < 0 ∨ 65535 < Tri.vl r)) (h3 : Tri.lo r ≤ x) : Tri.bad (some x) r = 41 := by unfold Tri.bad; rw [if_neg h, if_neg h2]; simp only; rw [if_pos h3]
theorem bad_none {r : Tri.Rg} (h : ¬ (Tri.lo r < 0 ∨ 1114111 < Tri.hi r ∨ Tri.hi r < Tri.lo r)) (h2 : ¬ (Tri.vl r < 0 ∨ 65535 < Tri.vl r)) : Tri.bad none r = 0 := by unfold Tri.bad; rw [if_neg h, if_neg h2]
theorem bad_some {x : Int} {r : Tri.Rg} (h : ¬ (Tri.lo r < 0 ∨ 1114111 < Tri.hi r ∨ Tri.hi r < Tri.lo r)) (h2 : ¬ (Tri.vl r < 0 ∨ 65535 < Tri.vl r)) (h3 : ¬ Tri.lo r ≤ x) : Tri.bad (some x) r = 0 := by unfold Tri.bad; rw [if_neg h, if_neg h2]; simp only; rw [if_neg h3]

set_option maxHeartbeats 2000000 in
theorem refCheck_any (v : Value) (rs : List Tri.Rg) (d : Int) (w : World) (hv : Sr w v rs) (hd : Fi d) :
    Calls Try.prog 10 #[v, .int .i64 d] w (TwoPost w (Tri.check d rs)) := by
  have hl := hv.len
  obtain ⟨hd1, hd2⟩ := hd
  have hend : ∀ wr, Below w.heap.size w wr → (∀ r, r = Tri.checkA d rs.length (prv rs rs.length) (rs.drop rs.length) → (d < 0 → TwoPost w r (.returned (.tuple #[.int .i64 (rs.length : Int), .int .i64 42])) wr) ∧ (65535 < d → TwoPost w r (.returned (.tuple #[.int .i64 (rs.length : Int), .int .i64 42])) wr) ∧ (0 ≤ d → d ≤ 65535 → TwoPost w r (.returned (.tuple #[.int .i64 0, .int .i64 0])) wr)) := by
    intro wr hb r hr
    rw [List.drop_length] at hr
    simp only [Tri.checkA] at hr
    refine ⟨fun h => TwoPost.mk (by rw [hr, if_pos (by omega)]) hb, fun h => TwoPost.mk (by rw [hr, if_pos (by omega)]) hb, fun h1 h2 => TwoPost.mk (by rw [hr, if_neg (by omega)]) hb⟩
  have HEnd := hide hend
  clear hend
  rcases Nat.eq_zero_or_pos rs.length with h0 | h0
  · have hc : Tri.check d rs = Tri.checkA d rs.length (prv rs rs.length) (rs.drop rs.length) := by
      have : rs = [] := List.eq_nil_of_length_eq_zero h0
      subst this; rfl
    obtain ⟨e1, e2, e3⟩ := (unhide HEnd) w (Below.refl _ _) _ hc
    obtain ⟨ao, cap, rfl, _, _⟩ := hv.shape
    rw [h0] at e1 e2 ⊢
    clear hc HEnd
    generalize Tri.check d rs = r at *
    by_cases a1 : d < 0
    · have HF := e1 a1
      clear e1 e2 e3 hv
      go_enter Try.func10, Try.ntmps10
      go_wp2
      refine wp_loop_rounds 1 ?_
      rw [rounds_succ]
      go_wp2
      go_ret2
      exact HF
    · by_cases a2 : 65535 < d
      · have HF := e2 a2
        clear e1 e2 e3 hv
        go_enter Try.func10, Try.ntmps10
        go_wp2
        refine wp_loop_rounds 1 ?_
        rw [rounds_succ]
        go_wp2
        go_ret2
        exact HF
      · have HF := e3 (by omega) (by omega)
        clear e1 e2 e3 hv
        go_enter Try.func10, Try.ntmps10
        go_wp2
        refine wp_loop_rounds 1 ?_
        rw [rounds_succ]
        go_wp2
        go_ret2
        exact HF
  · have hfit := hide hv.1
    obtain ⟨b, off, cap, rfl, hk1, hk2, hcl⟩ := hv.place h0
    have HC : Hid (∀ wx, Below w.heap.size w wx → ∀ i, i < rs.length →
      wx.cell? ⟨b, off + i * 3, none⟩ = some (.int .i64 (Tri.lo (rs.getD i (0, 0, 0)))) ∧ wx.cell? ⟨b, off + i * 3 + 1, none⟩ = some (.int .i64 (Tri.hi (rs.getD i (0, 0, 0)))) ∧ wx.cell? ⟨b, off + i * 3 + 2, none⟩ = some (.int .i64 (Tri.vl (rs.getD i (0, 0, 0))))) := by
      intro wx hb i hi
      obtain ⟨c0, c1, c2⟩ := hcl i hi
      exact ⟨by rw [hb.cell (lt_of_cell? c0)]; exact c0, by rw [hb.cell (lt_of_cell? c1)]; exact c1, by rw [hb.cell (lt_of_cell? c2)]; exact c2⟩
    clear hv hcl
    generalize hg : Tri.check d rs = res at *
    have HG := hide hg
    clear hg
    go_enter Try.func10, Try.ntmps10
    go_wp2
    go_loopw [6] (fun i wr => ∃ k : Nat, i = .int .i64 k ∧ k ≤ rs.length ∧ Below w.heap.size w wr ∧ res = Tri.checkA d k (prv rs k) (rs.drop k)) (fun i _ => rs.length - (intOf i).toNat)
    case atStart => exact ⟨0, rfl, by omega, Below.refl _ _, by rw [List.drop_zero]; exact (unhide HG).symm⟩
    case round =>
      obtain ⟨k, rfl, hk, hbel, hgk⟩ := hrel
      by_cases hlt : k < rs.length
      · obtain ⟨c0, c1, c2⟩ := (unhide HC) _ hbel k hlt
        rw [check_step hlt] at hgk
        have HS := hide hgk
        clear hgk
        have hr := (unhide hfit).at k
        obtain ⟨⟨f1, f2⟩, ⟨f3, f4⟩, f5, f6⟩ := hr
        have E40 : Hid (∀ wx, Below w.heap.size w wx → (Tri.lo (rs.getD k (0, 0, 0)) < 0 ∨ 1114111 < Tri.hi (rs.getD k (0, 0, 0)) ∨ Tri.hi (rs.getD k (0, 0, 0)) < Tri.lo (rs.getD k (0, 0, 0))) → TwoPost w res (.returned (.tuple #[.int .i64 (k : Int), .int .i64 40])) wx) := fun wx hb hc => TwoPost.mk (by rw [unhide HS, bad_range hc]; rfl) hb
        have E42 : Hid (∀ wx, Below w.heap.size w wx → ¬ (Tri.lo (rs.getD k (0, 0, 0)) < 0 ∨ 1114111 < Tri.hi (rs.getD k (0, 0, 0)) ∨ Tri.hi (rs.getD k (0, 0, 0)) < Tri.lo (rs.getD k (0, 0, 0))) → (Tri.vl (rs.getD k (0, 0, 0)) < 0 ∨ 65535 < Tri.vl (rs.getD k (0, 0, 0))) → TwoPost w res (.returned (.tuple #[.int .i64 (k : Int), .int .i64 42])) wx) := fun wx hb hc h2 => TwoPost.mk (by rw [unhide HS, bad_value hc h2]; rfl) hb
        have E41 : Hid (∀ x, prv rs k = some x → ∀ wx, Below w.heap.size w wx → ¬ (Tri.lo (rs.getD k (0, 0, 0)) < 0 ∨ 1114111 < Tri.hi (rs.getD k (0, 0, 0)) ∨ Tri.hi (rs.getD k (0, 0, 0)) < Tri.lo (rs.getD k (0, 0, 0))) → ¬ (Tri.vl (rs.getD k (0, 0, 0)) < 0 ∨ 65535 < Tri.vl (rs.getD k (0, 0, 0))) → Tri.lo (rs.getD k (0, 0, 0)) ≤ x → TwoPost w res (.returned (.tuple #[.int .i64 (k : Int), .int .i64 41])) wx) := fun x hp wx hb hc h2 h3 => TwoPost.mk (by rw [unhide HS, hp, bad_order hc h2 h3]; rfl) hb
        have E0 : Hid (¬ (Tri.lo (rs.getD k (0, 0, 0)) < 0 ∨ 1114111 < Tri.hi (rs.getD k (0, 0, 0)) ∨ Tri.hi (rs.getD k (0, 0, 0)) < Tri.lo (rs.getD k (0, 0, 0))) → ¬ (Tri.vl (rs.getD k (0, 0, 0)) < 0 ∨ 65535 < Tri.vl (rs.getD k (0, 0, 0))) → (prv rs k = none ∨ ∃ x, prv rs k = some x ∧ ¬ Tri.lo (rs.getD k (0, 0, 0)) ≤ x) → res = Tri.checkA d (k + 1) (prv rs (k + 1)) (rs.drop (k + 1))) := by
          intro hc h2 h3
          rw [unhide HS]
          rcases h3 with h3 | ⟨x, h3, h4⟩
          · rw [h3, bad_none hc h2, if_pos rfl]
          · rw [h3, bad_some hc h2 h4, if_pos rfl]
        clear HS HEnd
        generalize Tri.lo (rs.getD k (0, 0, 0)) = l at *
        generalize Tri.hi (rs.getD k (0, 0, 0)) = h at *
        generalize Tri.vl (rs.getD k (0, 0, 0)) = x at *
        have hszw := hbel.size
        have HBA : Hid (∀ o, Below w.heap.size w (wr.alloc o)) := fun o => hbel.alloc hszw o
        by_cases a1 : l < 0
        · have HF := fun wx hb => (unhide E40) wx hb (.inl a1)
          clear E40 E42 E41 E0
          go_wp2
          go_ret2
          exact HF _ ((unhide HBA) _)
        · by_cases a2 : 1114111 < h
          · have HF := fun wx hb => (unhide E40) wx hb (.inr (.inl a2))
            clear E40 E42 E41 E0
            go_wp2
            go_ret2
            exact HF _ ((unhide HBA) _)
          · by_cases a3 : h < l
            · have HF := fun wx hb => (unhide E40) wx hb (.inr (.inr a3))
              clear E40 E42 E41 E0
              go_wp2
              go_ret2
              exact HF _ ((unhide HBA) _)
            · by_cases a4 : x < 0
              · have HF := fun wx hb => (unhide E42) wx hb (by omega) (.inl a4)
                clear E40 E42 E41 E0
                go_wp2
                go_ret2
                exact HF _ ((unhide HBA) _)
              · by_cases a5 : 65535 < x
                · have HF := fun wx hb => (unhide E42) wx hb (by omega) (.inr a5)
                  clear E40 E42 E41 E0
                  go_wp2
                  go_ret2
                  exact HF _ ((unhide HBA) _)
                · rcases Nat.eq_zero_or_pos k with hk0 | hk0
                  · subst hk0
                    simp only [Nat.zero_mul, Nat.add_zero] at c0 c1 c2
                    have HF := hide ((unhide E0) (by omega) (by omega) (.inl rfl))
                    clear E40 E42 E41 E0
                    go_wp2
                    go_quiet (fail)
                    have hbq := below_drewN ((unhide HBA) (.cells #[.int .i64 l, .int .i64 h, .int .i64 x] 35)) nq
                    clear HBA hbel
                    go_wp2
                    go_roundw
                    case rel => exact ⟨1, by go_num, by omega, hbq, unhide HF⟩
                    case measure => simp [intOf]; omega
                  · obtain ⟨j, rfl⟩ : ∃ j, k = j + 1 := ⟨k - 1, by omega⟩
                    obtain ⟨p0, p1, p2⟩ := (unhide HC) _ ((unhide HBA) (.cells #[.int .i64 l, .int .i64 h, .int .i64 x] 35)) j (by omega)
                    have hrj := (unhide hfit).at j
                    obtain ⟨_, ⟨g3, g4⟩, _⟩ := hrj
                    have HP : Hid (prv rs (j + 1) = some (Tri.hi (rs.getD j (0, 0, 0)))) := rfl
                    clear p0 p2
                    generalize Tri.hi (rs.getD j (0, 0, 0)) = y at *
                    have hj1 : (0 : Int) < ((j + 1 : Nat) : Int) := by omega
                    have hj2 : ((j + 1 : Nat) : Int) - 1 = (j : Int) := by omega
                    by_cases a6 : l ≤ y
                    · have HF := fun wx hb => (unhide E41) y (unhide HP) wx hb (by omega) (by omega) a6
                      clear E40 E42 E41 E0 HP
                      go_wp2
                      go_quiet (fail)
                      have hbq := below_drewN ((unhide HBA) (.cells #[.int .i64 l, .int .i64 h, .int .i64 x] 35)) nq
                      clear HBA hbel
                      go_wp2
                      go_ret2
                      exact HF _ hbq
                    · have HF := hide ((unhide E0) (by omega) (by omega) (.inr ⟨y, unhide HP, a6⟩))
                      clear E40 E42 E41 E0 HP
                      go_wp2
                      go_quiet (fail)
                      have hbq := below_drewN ((unhide HBA) (.cells #[.int .i64 l, .int .i64 h, .int .i64 x] 35)) nq
                      clear HBA hbel
                      go_wp2
                      go_roundw
                      case rel => exact ⟨j + 2, by go_num, by omega, hbq, unhide HF⟩
                      case measure => simp [intOf]; omega
      · obtain rfl : k = rs.length := by omega
        obtain ⟨e1, e2, e3⟩ := (unhide HEnd) _ hbel _ hgk
        clear hgk HG
        by_cases a1 : d < 0
        · have HF := e1 a1
          clear e1 e2 e3
          go_wp2
          go_ret2
          exact HF
        · by_cases a2 : 65535 < d
          · have HF := e2 a2
            clear e1 e2 e3
            go_wp2
            go_ret2
            exact HF
          · have HF := e3 (by omega) (by omega)
            clear e1 e2 e3
            go_wp2
            go_ret2
            exact HF
end Go.Proofs.Ytehdeipeehaejaa
