/- The contracts of what is asked ahead of a Build: which range is wrong, and how. -/
import Derived.Test.YtehdeipeehaejaaTrA4
namespace Go.Proofs.Ytehdeipeehaejaa
open Go.RowKit

def okv (n : Int) : Bool := decide (0 ≤ n ∧ n ≤ 65535)
theorem okv_lo {n : Int} (h : n < 0) : okv n = false := by unfold okv; rw [decide_eq_false]; omega
theorem okv_hi {n : Int} (h : 65535 < n) : okv n = false := by unfold okv; rw [decide_eq_false]; omega
theorem okv_in {n : Int} (h : ¬ n < 0) (h2 : ¬ 65535 < n) : okv n = true := by unfold okv; rw [decide_eq_true]; omega

theorem isValue4 (n : Int) (w : World) (hn : Fi n) : Calls Try.prog 30 #[.int .i64 n] w fun e w' => e = .returned (.bool (okv n)) ∧ w' = w := by
  obtain ⟨h1, h2⟩ := hn
  by_cases a1 : n < 0
  · rw [okv_lo a1]
    go_enter Try.func30, Try.ntmps30
    go_wp2
    go_ret
    exact ⟨rfl, rfl⟩
  · by_cases a2 : 65535 < n
    · rw [okv_hi a2]
      have a3 : ¬ n ≤ 65535 := by omega
      go_enter Try.func30, Try.ntmps30
      go_wp2
      go_ret
      exact ⟨rfl, rfl⟩
    · rw [okv_in a1 a2]
      have a3 : n ≤ 65535 := by omega
      go_enter Try.func30, Try.ntmps30
      go_wp2
      go_ret
      exact ⟨rfl, rfl⟩

theorem fault4 (l h x b : Int) (w : World) (hl : Fi l) (hh : Fi h) (hx : Fi x) (hb : Fi b) : Calls Try.prog 29 #[.agg #[.int .i64 l, .int .i64 h, .int .i64 x], .int .i64 b] w (IntPost w (Tri.bad (some b) (l, h, x))) := by
  have HV := hide (fun w' => isValue4 x w' hx)
  obtain ⟨l1, l2⟩ := hl
  obtain ⟨h1, h2⟩ := hh
  obtain ⟨x1, x2⟩ := hx
  obtain ⟨b1, b2⟩ := hb
  have hA : Below w.heap.size w (w.alloc (.cells #[.int .i64 l, .int .i64 h, .int .i64 x] 35)) := (Below.refl _ _).alloc (Nat.le_refl _) _
  by_cases a1 : l < 0
  · rw [bad_range (r := (l, h, x)) (.inl a1)]
    clear HV
    go_enter Try.func29, Try.ntmps29
    go_wp2
    go_ret
    exact ⟨rfl, hA⟩
  · by_cases a2 : 1114111 < h
    · rw [bad_range (r := (l, h, x)) (.inr (.inl a2))]
      clear HV
      go_enter Try.func29, Try.ntmps29
      go_wp2
      go_ret
      exact ⟨rfl, hA⟩
    · by_cases a3 : h < l
      · rw [bad_range (r := (l, h, x)) (.inr (.inr a3))]
        clear HV
        go_enter Try.func29, Try.ntmps29
        go_wp2
        go_ret
        exact ⟨rfl, hA⟩
      · have hn : ¬ (Tri.lo (l, h, x) < 0 ∨ 1114111 < Tri.hi (l, h, x) ∨ Tri.hi (l, h, x) < Tri.lo (l, h, x)) := by simp only [Tri.lo_mk, Tri.hi_mk]; omega
        by_cases a4 : x < 0 ∨ 65535 < x
        · rw [bad_value hn a4]
          have hk : okv x = false := by rcases a4 with h | h; exact okv_lo h; exact okv_hi h
          rw [hk] at HV
          go_enter Try.func29, Try.ntmps29
          go_wp2_with fail
          refine ((unhide HV) _).mono ?_
          rintro e w1 ⟨rfl, rfl⟩
          clear HV
          go_wp2
          go_ret
          exact ⟨rfl, hA⟩
        · have hk : okv x = true := okv_in (by omega) (by omega)
          rw [hk] at HV
          by_cases a5 : l ≤ b
          · rw [bad_order hn a4 a5]
            go_enter Try.func29, Try.ntmps29
            go_wp2_with fail
            refine ((unhide HV) _).mono ?_
            rintro e w1 ⟨rfl, rfl⟩
            clear HV
            go_wp2
            go_ret
            exact ⟨rfl, hA⟩
          · rw [bad_some hn a4 a5]
            go_enter Try.func29, Try.ntmps29
            go_wp2_with fail
            refine ((unhide HV) _).mono ?_
            rintro e w1 ⟨rfl, rfl⟩
            clear HV
            go_wp2
            go_ret
            exact ⟨rfl, hA⟩

/-- Where the range ahead ends; -1 ahead of the first one. -/
def prz (rs : List Tri.Rg) : Nat → Int
  | 0 => -1
  | k + 1 => Tri.hi (rs.getD k (0, 0, 0))
theorem bad_prz (rs : List Tri.Rg) (k : Nat) (r : Tri.Rg) : Tri.bad (some (prz rs k)) r = Tri.bad (prv rs k) r := by
  cases k with
  | zero =>
    unfold Tri.bad prz prv
    split
    · rfl
    · split
      · rfl
      · simp only; rw [if_neg (by omega)]
  | succ k => rfl

set_option maxHeartbeats 1000000 in
theorem firstFault4 (v : Value) (rs : List Tri.Rg) (d : Int) (w : World) (hv : Sr w v rs) (hd : Fi d) :
    Calls Try.prog 23 #[v, .int .i64 d] w (TwoPost w (Tri.check d rs)) := by
  have hl := hv.len
  have HV := hide (fun w' => isValue4 d w' hd)
  obtain ⟨hd1, hd2⟩ := hd
  have hend : Hid (∀ r, r = Tri.checkA d rs.length (prv rs rs.length) (rs.drop rs.length) → ∀ wr, Below w.heap.size w wr → (okv d = false → TwoPost w r (.returned (.tuple #[.int .i64 (rs.length : Int), .int .i64 42])) wr) ∧ (okv d = true → TwoPost w r (.returned (.tuple #[.int .i64 0, .int .i64 0])) wr)) := by
    intro r hr wr hb
    rw [List.drop_length] at hr
    simp only [Tri.checkA] at hr
    refine ⟨fun h => TwoPost.mk (by rw [hr, if_pos (by unfold okv at h; have := of_decide_eq_false h; omega)]) hb, fun h => TwoPost.mk (by rw [hr, if_neg (by unfold okv at h; have := of_decide_eq_true h; omega)]) hb⟩
  have HG : Hid (Tri.checkA d 0 (prv rs 0) (rs.drop 0) = Tri.check d rs) := by rw [List.drop_zero]; rfl
  have hfit := hide hv.1
  have hsr := hide hv
  obtain ⟨ao, cap, rfl, hc1, hc2⟩ := hv.shape
  clear hv
  generalize Tri.check d rs = res at *
  go_enter Try.func23, Try.ntmps23
  go_wp2
  go_loopw [6, 12] (fun b i wr => ∃ k : Nat, i = .int .i64 k ∧ b = .int .i64 (prz rs k) ∧ k ≤ rs.length ∧ Below w.heap.size w wr ∧ res = Tri.checkA d k (prv rs k) (rs.drop k)) (fun _ i _ => rs.length - (intOf i).toNat)
  case atStart => exact ⟨0, rfl, rfl, by omega, Below.refl _ _, (unhide HG).symm⟩
  case round =>
    obtain ⟨k, rfl, rfl, hk, hbel, hgk⟩ := hrel
    by_cases hlt : k < rs.length
    · obtain ⟨bx, offx, cpx, hvx, _, _, hcl⟩ := (unhide hsr).place (by omega)
      simp only [Value.slice.injEq] at hvx
      obtain ⟨rfl, _, rfl⟩ := hvx
      obtain ⟨c0, c1, c2⟩ := hcl k hlt
      rw [← hbel.cell (lt_of_cell? c0)] at c0
      rw [← hbel.cell (lt_of_cell? c1)] at c1
      rw [← hbel.cell (lt_of_cell? c2)] at c2
      have hr := (unhide hfit).at k
      have hpz : Fi (prz rs k) := by
        cases k with
        | zero => simp [prz, Fi]
        | succ k => exact ((unhide hfit).at k).2.1
      have HF := hide (fun w' => fault4 (Tri.lo (rs.getD k (0, 0, 0))) (Tri.hi (rs.getD k (0, 0, 0))) (Tri.vl (rs.getD k (0, 0, 0))) (prz rs k) w' hr.1 hr.2.1 hr.2.2 hpz)
      have hre : (Tri.lo (rs.getD k (0, 0, 0)), Tri.hi (rs.getD k (0, 0, 0)), Tri.vl (rs.getD k (0, 0, 0))) = rs.getD k (0, 0, 0) := rfl
      have hnx : prz rs (k + 1) = Tri.hi (rs.getD k (0, 0, 0)) := rfl
      rw [check_step hlt, ← bad_prz] at hgk
      rw [hre] at HF
      have HS := hide hgk
      have HN := hide hnx
      obtain ⟨p1, p2⟩ := hpz
      obtain ⟨⟨f1, f2⟩, ⟨f3, f4⟩, f5, f6⟩ := hr
      clear hgk hcl hnx hre
      have HK : Hid (∀ x, x = Tri.bad (some (prz rs k)) (rs.getD k (0, 0, 0)) → x = 0 ∨ x = 40 ∨ x = 41 ∨ x = 42) := by
        intro x hx; subst hx; unfold Tri.bad; split
        · simp
        · split
          · simp
          · simp only; split <;> simp
      generalize Tri.bad (some (prz rs k)) (rs.getD k (0, 0, 0)) = q at *
      generalize Tri.lo (rs.getD k (0, 0, 0)) = l at *
      generalize Tri.hi (rs.getD k (0, 0, 0)) = h at *
      generalize Tri.vl (rs.getD k (0, 0, 0)) = x at *
      have hszw := hbel.size
      have hba : Below w.heap.size w (wr.alloc (.cells #[.int .i64 l, .int .i64 h, .int .i64 x] 35)) := hbel.alloc hszw _
      have hc8 : (wr.alloc (.cells #[.int .i64 l, .int .i64 h, .int .i64 x] 35)).cell? ⟨wr.heap.size, 1, none⟩ = some (.int .i64 h) := by simp
      go_wp2_with fail
      refine ((unhide HF) _).mono ?_
      rintro e w1 ⟨rfl, hb1⟩
      have hbw : Below w.heap.size w w1 := hba.trans (hb1.mono hba.size)
      rw [← hb1.cell (lt_of_cell? hc8)] at hc8
      clear HF hb1 hba hbel c0 c1 c2
      by_cases hq : q = 0
      · subst hq
        have HS2 := hide ((unhide HS).trans (if_pos rfl))
        clear HS HK
        go_wp2
        go_roundw
        case rel => exact ⟨k + 1, by go_num, by rw [unhide HN], by omega, hbw, unhide HS2⟩
        case measure => simp [intOf]; omega
      · have HR : TwoPost w res (.returned (.tuple #[.int .i64 (k : Int), .int .i64 q])) w1 := TwoPost.mk ((unhide HS).trans (if_neg hq)) hbw
        have hq' : (q != 0) = true := by simp [hq]
        clear HS HK
        go_wp2
        go_ret2
        exact HR
    · obtain rfl : k = rs.length := by omega
      have HE := (unhide hend) _ hgk _ hbel
      clear hgk HG hend hsr hfit
      cases ho : okv d with
      | false =>
        rw [ho] at HV HE
        have HF := HE.1 rfl
        clear HE
        go_wp2_with fail
        refine ((unhide HV) _).mono ?_
        rintro e w1 ⟨rfl, rfl⟩
        clear HV
        go_wp2
        go_ret2
        exact HF
      | true =>
        rw [ho] at HV HE
        have HF := HE.2 rfl
        clear HE
        go_wp2_with fail
        refine ((unhide HV) _).mono ?_
        rintro e w1 ⟨rfl, rfl⟩
        clear HV
        go_wp2
        go_ret2
        exact HF
end Go.Proofs.Ytehdeipeehaejaa
