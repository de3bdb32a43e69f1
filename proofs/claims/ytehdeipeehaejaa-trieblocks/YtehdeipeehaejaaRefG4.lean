/- The contracts of the document's own Get. -/
import Derived.Test.YtehdeipeehaejaaSz
namespace Go.Proofs.Ytehdeipeehaejaa
open Go.RowKit

theorem get_step {d c : Int} {rs : List Tri.Rg} {k : Nat} (hk : k < rs.length) : Tri.get d (rs.drop k) c = if Tri.lo (rs.getD k (0, 0, 0)) ≤ c ∧ c ≤ Tri.hi (rs.getD k (0, 0, 0)) then Tri.vl (rs.getD k (0, 0, 0)) else Tri.get d (rs.drop (k + 1)) c := by
  rw [List.drop_eq_getElem_cons hk, Tri.get_cons]
  simp [List.getD, hk]

set_option maxHeartbeats 1000000 in
theorem refGet_any (v : Value) (rs : List Tri.Rg) (d c : Int) (w : World) (hv : Sr w v rs) (hd : Fi d) (hc : Fi c) :
    Calls Try.prog 14 #[v, .int .i64 d, .int .i64 c] w fun e w' => e = .returned (.int .i64 (Tri.get d rs c)) ∧ w' = w := by
  have hl := hv.len
  obtain ⟨hd1, hd2⟩ := hd
  obtain ⟨hc1, hc2⟩ := hc
  rcases Nat.eq_zero_or_pos rs.length with h0 | h0
  · have hg : Tri.get d rs c = d := by rw [List.eq_nil_of_length_eq_zero h0]; rfl
    obtain ⟨ao, cap, rfl, _, _⟩ := hv.shape
    rw [hg, h0]
    go_enter Try.func14, Try.ntmps14
    go_wp2
    refine wp_loop_rounds 1 ?_
    rw [rounds_succ]
    go_wp2
    go_ret
    exact ⟨rfl, rfl⟩
  · have hfit := hide hv.1
    obtain ⟨b, off, cap, rfl, hk1, hk2, hcl⟩ := hv.place h0
    have HC := hide hcl
    clear hv hcl
    generalize hg : Tri.get d rs c = g at *
    have HG := hide hg
    clear hg
    go_enter Try.func14, Try.ntmps14
    go_wp2
    go_loop [7] (fun i => ∃ k : Nat, i = .int .i64 k ∧ k ≤ rs.length ∧ g = Tri.get d (rs.drop k) c) (fun i => rs.length - (intOf i).toNat)
    case atStart => exact ⟨0, rfl, by omega, by rw [List.drop_zero]; exact (unhide HG).symm⟩
    case round =>
      obtain ⟨k, rfl, hk, hgk⟩ := hrel
      by_cases hlt : k < rs.length
      · obtain ⟨c0, c1, c2⟩ := (unhide HC) k hlt
        rw [get_step hlt] at hgk
        have HS := hide hgk
        have hr := (unhide hfit).at k
        obtain ⟨⟨f1, f2⟩, ⟨f3, f4⟩, f5, f6⟩ := hr
        clear hgk
        generalize Tri.lo (rs.getD k (0, 0, 0)) = l at *
        generalize Tri.hi (rs.getD k (0, 0, 0)) = h at *
        generalize Tri.vl (rs.getD k (0, 0, 0)) = x at *
        by_cases a1 : l ≤ c
        · by_cases a2 : c ≤ h
          · have hgx : g = x := (unhide HS).trans (if_pos ⟨a1, a2⟩)
            subst hgx
            clear HS
            go_wp2
            go_ret
            exact ⟨rfl, rfl⟩
          · have HS2 : Hid (g = Tri.get d (rs.drop (k + 1)) c) := (unhide HS).trans (if_neg (fun e => a2 e.2))
            clear HS
            go_wp2
            go_round
            case rel => exact ⟨k + 1, by go_num, by omega, unhide HS2⟩
            case measure => simp [intOf]; omega
        · have HS2 : Hid (g = Tri.get d (rs.drop (k + 1)) c) := (unhide HS).trans (if_neg (fun e => a1 e.1))
          clear HS
          go_wp2
          go_round
          case rel => exact ⟨k + 1, by go_num, by omega, unhide HS2⟩
          case measure => simp [intOf]; omega
      · have hgd : g = d := by rw [hgk, List.drop_eq_nil_of_le (by omega)]; rfl
        clear hgk
        subst hgd
        go_wp2
        go_ret
        exact ⟨rfl, rfl⟩
end Go.Proofs.Ytehdeipeehaejaa
