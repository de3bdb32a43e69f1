/- The contract of Build. -/
import Derived.Test.YtehdeipeehaejaaTrE4
import Derived.Test.YtehdeipeehaejaaTrC4
namespace Go.Proofs.Ytehdeipeehaejaa
open Go.RowKit

theorem T4.lower {w : World} {B B' : Nat} {t : Value} {rs : List Tri.Rg} {d : Int} (h : T4 w B t rs d) (hb : B' ≤ B) : T4 w B' t rs d := by
  obtain ⟨h1, h2, g, iv, bv, h3, h4, h5, h6, h7⟩ := h
  exact ⟨h1, h2, g, iv, bv, h3, by omega, h5, h6.lower hb, h7.lower hb⟩

theorem build4 (v : Value) (rs : List Tri.Rg) (d : Int) (w : World) (hv : Sr w v rs) (hd : Fi d) : Calls Try.prog 9 #[v, .int .i64 d] w (BuildPost (fun w' t rs d => T4 w' w.heap.size t rs d) w rs d) := by
  have H1 := hide (firstFault4 v rs d w hv hd)
  have H2 : Hid (∀ w1, Below w.heap.size w w1 → (Tri.check d rs).2 = 0 → Calls Try.prog 24 #[v, .int .i64 d] w1 (CompPost w1 rs d)) := by
    intro w1 hb h0
    obtain ⟨h1, h2⟩ := Tri.check_ok.1 h0
    exact compiled4 v rs d w1 (hv.below hb) h1 h2
  have hz : Hid ((Tri.check d rs).2 = 0 → (Tri.check d rs).1 = 0) := Tri.check_zero 0 none rs
  have HP1 : Hid (∀ w', Below w.heap.size w w' → (Tri.check d rs).2 ≠ 0 → BuildPost (fun w' t rs d => T4 w' w.heap.size t rs d) w rs d (.returned (.tuple #[.pointer none, .int .i64 (Tri.check d rs).1, .int .i64 (Tri.check d rs).2])) w') := fun w' hb hn => ⟨hb, .inr ⟨hn, rfl⟩⟩
  have HP2 : Hid (∀ w' a, Below w.heap.size w w' → (Tri.check d rs).2 = 0 → T4 w' w.heap.size (.pointer (some a)) rs d → BuildPost (fun w' t rs d => T4 w' w.heap.size t rs d) w rs d (.returned (.tuple #[.pointer (some a), .int .i64 0, .int .i64 0])) w') := fun w' a hb hn hT => ⟨hb, .inl ⟨hn, a, rfl, hT⟩⟩
  clear hv hd
  generalize Tri.check d rs = q at *
  obtain ⟨q1, q2⟩ := q
  go_enter Try.func9, Try.ntmps9
  go_wp2_with fail
  refine (unhide H1).mono ?_
  rintro e w1 ⟨rfl, hb1⟩
  clear H1
  by_cases h0 : q2 = 0
  · subst h0
    have HC := hide ((unhide H2) w1 hb1 rfl)
    clear H2 HP1
    go_wp2_with fail
    refine (unhide HC).mono ?_
    rintro e w2 ⟨a, rfl, hT, hb2⟩
    clear HC
    go_wp2
    go_ret3
    exact (unhide HP2) _ a (hb1.trans (hb2.mono hb1.size)) (by first | rfl | trivial) (hT.lower hb1.size)
  · have h0' : (q2 != 0) = true := by simp [h0]
    clear H2 HP2
    go_wp2
    go_ret3
    exact (unhide HP1) _ hb1 h0
end Go.Proofs.Ytehdeipeehaejaa
