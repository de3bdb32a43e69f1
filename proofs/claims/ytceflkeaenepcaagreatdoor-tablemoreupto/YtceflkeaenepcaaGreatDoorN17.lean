import Derived.Test.YtceflkeaenepcaaGreatDoorN16
namespace Go.Proofs.YtceflkeaenepcaaGreatDoor
open Go.RowKit
theorem alloc_at6 (w : World) (a : Array Value) (e : TypeId) : (w.alloc (.cells a e)).heap[w.heap.size]? = some (.cells a e (0, 0)) := by
  unfold World.alloc
  simp
theorem newInt_p (n : Int) (h0 : 0 < n) (h1 : n ≤ 1000) (w : World) :
    Calls Tryz.prog 171 #[.int .i64 n] w fun e w' => e = .returned (.pointer (some ⟨w.heap.size + 1, 0, none⟩)) ∧ Zi w' (w.heap.size + 1) (.slice (some ⟨w.heap.size, 0, none⟩) 1 1) ∧ w'.cell? ⟨w.heap.size, 0, none⟩ = some (.int .u64 n) ∧ Below w.heap.size w w' := by
  refine (newInt_pos n h0 h1 w).mono ?_
  rintro e w' ⟨rfl, rfl⟩
  have hz := Zi.alloc (w.alloc (.cells #[.int .u64 n] 246)) (.slice (some ⟨w.heap.size, 0, none⟩) 1 1)
  have hs : (w.alloc (.cells #[.int .u64 n] 246)).heap.size = w.heap.size + 1 := by simp
  have c1 : (w.alloc (.cells #[.int .u64 n] 246)).cell? ⟨w.heap.size, 0, none⟩ = some (.int .u64 n) := by simp [go_sem]
  have B1 := (Below.refl w.heap.size w).alloc (Nat.le_refl _) (.cells #[.int .u64 n] 246)
  rw [hs] at hz
  generalize w.alloc (.cells #[.int .u64 n] 246) = W1 at *
  have B2 := (Below.refl W1.heap.size W1).alloc (Nat.le_refl _) (.cells #[.bool false, .slice (some ⟨w.heap.size, 0, none⟩) 1 1] 227)
  exact ⟨rfl, hz, (B2.cell (lt_of_cell? c1)).trans c1, B1.trans (B2.mono (by omega))⟩
theorem newInt_z (w : World) :
    Calls Tryz.prog 171 #[.int .i64 0] w fun e w' => e = .returned (.pointer (some ⟨w.heap.size, 0, none⟩)) ∧ Zi w' w.heap.size (.slice none 0 0) ∧ Below w.heap.size w w' := by
  refine (newInt_0 w).mono ?_
  rintro e w' ⟨rfl, rfl⟩
  exact ⟨rfl, Zi.alloc w _, (Below.refl w.heap.size w).alloc (Nat.le_refl _) _⟩
theorem exp_t (B cx cy : Nat) (m : Int) (vy : Value) (W : World) (hz : Zi W B (.slice none 0 0)) (gx : Nat) (hx : Zi W cx (.slice (some ⟨gx, 0, none⟩) 1 1)) (hgx : W.cell? ⟨gx, 0, none⟩ = some (.int .u64 10)) (hne : cx ≠ B) (hy : Zi W cy vy)
    (hm : (m = 1 ∧ vy = .slice none 0 0) ∨ (∃ gy, vy = .slice (some ⟨gy, 0, none⟩) 1 1 ∧ ((m = 10 ∧ W.cell? ⟨gy, 0, none⟩ = some (.int .u64 1)) ∨ (m = 100 ∧ W.cell? ⟨gy, 0, none⟩ = some (.int .u64 2))))) :
    Calls Tryz.prog 199 #[.pointer (some ⟨B, 0, none⟩), .pointer (some ⟨cx, 0, none⟩), .pointer (some ⟨cy, 0, none⟩), .pointer none] W fun e w' => e = .returned (.pointer (some ⟨B, 0, none⟩)) ∧ Tz B w' B m ∧ Below B W w' := by
  have hBW := hz.lt
  have fin : ∀ (W1 : World) (g cp : Nat), Below W.heap.size W W1 → W.heap.size ≤ g → W1.cell? ⟨g, 0, none⟩ = some (.int .u64 m) → (cp = 1 ∨ (cp = 6 ∧ W1.heap[g]? = some (.cells #[.int .u64 m, .int .u64 0, .int .u64 0, .int .u64 0, .int .u64 0, .int .u64 0] 246 (0, 0)))) →
      Tz B ((W1.setCell ⟨B, 1, none⟩ (.slice (some ⟨g, 0, none⟩) 1 cp)).setCell ⟨B, 0, none⟩ (.bool false)) B m ∧ Below B W ((W1.setCell ⟨B, 1, none⟩ (.slice (some ⟨g, 0, none⟩) 1 cp)).setCell ⟨B, 0, none⟩ (.bool false)) := by
    intro W1 g cp hb hg hc hcp
    have hz1 := hz.below hb hBW
    have hgB : g ≠ B := by omega
    refine ⟨⟨g, cp, (hz1.set _).keep, Nat.le_refl _, ?_, ?_⟩, ?_⟩
    · rw [cell_set6 hgB, cell_set6 hgB]; exact hc
    · rcases hcp with h | ⟨h, hh⟩
      · exact .inl h
      · exact .inr ⟨h, hgB, by omega, by rw [setCell_far6 _ hgB, setCell_far6 _ hgB]; exact hh⟩
    · exact ((hb.mono (by omega)).trans (below_set6 (Nat.le_refl _) 1 _)).trans (below_set6 (Nat.le_refl _) 0 _)
  have row : ∀ (W0 : World) (x : Int), (W0.alloc (.cells #[.int .u64 x] 246)).cell? ⟨W0.heap.size, 0, none⟩ = some (.int .u64 x) := by intro W0 x; simp [go_sem]
  rcases hm with ⟨rfl, rfl⟩ | ⟨gy, rfl, ⟨rfl, hgy⟩ | ⟨rfl, hgy⟩⟩
  · refine (iexp B cx cy _ _ W.heap.size 1 W (fun W1 => ∃ k, W1 = (W.drewN k).alloc (.cells #[.int .u64 1] 246)) hz hx hy hne (exp_0 gx 1 W) ?_).mono ?_
    · rintro W1 ⟨k, rfl⟩
      exact (drewN_below W k).trans ((Below.refl (W.drewN k).heap.size (W.drewN k)).alloc (Nat.le_refl _) _)
    · rintro e w' ⟨rfl, W1, ⟨k, rfl⟩, rfl⟩
      exact ⟨rfl, fin _ W.heap.size 1 ((drewN_below W k).trans ((Below.refl (W.drewN k).heap.size (W.drewN k)).alloc (Nat.le_refl _) _)) (Nat.le_refl _) (row (W.drewN k) 1) (.inl rfl)⟩
  · refine (iexp B cx cy _ _ W.heap.size 1 W (fun W1 => ∃ k, W1 = (W.drewN k).alloc (.cells #[.int .u64 10] 246)) hz hx hy hne (exp_1 gx 1 gy 1 W hgx hgy) ?_).mono ?_
    · rintro W1 ⟨k, rfl⟩
      exact (drewN_below W k).trans ((Below.refl (W.drewN k).heap.size (W.drewN k)).alloc (Nat.le_refl _) _)
    · rintro e w' ⟨rfl, W1, ⟨k, rfl⟩, rfl⟩
      exact ⟨rfl, fin _ W.heap.size 1 ((drewN_below W k).trans ((Below.refl (W.drewN k).heap.size (W.drewN k)).alloc (Nat.le_refl _) _)) (Nat.le_refl _) (row (W.drewN k) 10) (.inl rfl)⟩
  · have ten : ∀ k, Below W.heap.size W (Ten2 W k) ∧ (Ten2 W k).heap[W.heap.size + 2]? = some (.cells #[.int .u64 100, .int .u64 0, .int .u64 0, .int .u64 0, .int .u64 0, .int .u64 0] 246 (0, 0)) := by
      intro k
      unfold Ten2
      have hs0 : (W.drewN k).heap.size = W.heap.size := rfl
      have B0 := drewN_below W k
      generalize W.drewN k = W0 at *
      have B1 := (Below.refl W0.heap.size W0).alloc (Nat.le_refl _) (.cells #[.pointer none] 299)
      have s1 : (W0.alloc (.cells #[.pointer none] 299)).heap.size = W0.heap.size + 1 := by simp
      generalize W0.alloc (.cells #[.pointer none] 299) = W1 at *
      have B2 := (Below.refl W1.heap.size W1).alloc (Nat.le_refl _) (.cells #[.int .u64 10] 246)
      have s2 : (W1.alloc (.cells #[.int .u64 10] 246)).heap.size = W1.heap.size + 1 := by simp
      generalize W1.alloc (.cells #[.int .u64 10] 246) = W2 at *
      have B3 := (Below.refl W2.heap.size W2).alloc (Nat.le_refl _) (.cells #[.int .u64 100, .int .u64 0, .int .u64 0, .int .u64 0, .int .u64 0, .int .u64 0] 246)
      refine ⟨((B0.trans (B1.mono (by omega))).trans (B2.mono (by omega))).trans (B3.mono (by omega)), ?_⟩
      rw [show W.heap.size + 2 = W2.heap.size by omega]
      exact alloc_at6 W2 _ _
    refine (iexp B cx cy _ _ (W.heap.size + 2) 6 W (fun W1 => ∃ k, W1 = Ten2 W k) hz hx hy hne (exp_2 gx 1 gy 1 W hgx hgy) ?_).mono ?_
    · rintro W1 ⟨k, rfl⟩
      exact (ten k).1
    · rintro e w' ⟨rfl, W1, ⟨k, rfl⟩, rfl⟩
      exact ⟨rfl, fin _ (W.heap.size + 2) 6 (ten k).1 (by omega) (cell_of6 (j := 0) (ten k).2 (by simp)) (.inr ⟨rfl, (ten k).2⟩)⟩
set_option maxRecDepth 20000 in
theorem tenfold_t (c : Nat) (n m t : Int) (w : World) (hm : (m = 1 ∧ t ≤ 0 ∧ -1000 ≤ t) ∨ (m = 10 ∧ t = 1) ∨ (m = 100 ∧ t = 2)) (hmn : MulOk m n) (h : Bp w c n) :
    Calls Tryz.prog 174 #[.pointer (some ⟨c, 0, none⟩), .int .i64 t] w (NewB w (m * n)) := by
  have hz0 : Zi (w.alloc (.cells #[.bool false, .slice none 0 0] 227)) w.heap.size (.slice none 0 0) := Zi.alloc w _
  have B0 : Below w.heap.size w (w.alloc (.cells #[.bool false, .slice none 0 0] 227)) := (Below.refl w.heap.size w).alloc (Nat.le_refl _) _
  have hs0 : (w.alloc (.cells #[.bool false, .slice none 0 0] 227)).heap.size = w.heap.size + 1 := by simp
  obtain ⟨W0, hW0⟩ : ∃ W0, w.alloc (.cells #[.bool false, .slice none 0 0] 227) = W0 := ⟨_, rfl⟩
  rw [hW0] at hz0 B0 hs0
  have K1 := hide (newInt_p 10 (by decide) (by decide) W0)
  have K2 := hide newInt_z
  have K3 := hide newInt_p
  have KE : Hid (∀ W1 W2 cy vy, Below W0.heap.size W0 W1 → Zi W1 (W0.heap.size + 1) (.slice (some ⟨W0.heap.size, 0, none⟩) 1 1) → W1.cell? ⟨W0.heap.size, 0, none⟩ = some (.int .u64 10) → Below W1.heap.size W1 W2 → Zi W2 cy vy → ((m = 1 ∧ vy = .slice none 0 0) ∨ (∃ gy, vy = .slice (some ⟨gy, 0, none⟩) 1 1 ∧ ((m = 10 ∧ W2.cell? ⟨gy, 0, none⟩ = some (.int .u64 1)) ∨ (m = 100 ∧ W2.cell? ⟨gy, 0, none⟩ = some (.int .u64 2))))) →
      Calls Tryz.prog 199 #[.pointer (some ⟨w.heap.size, 0, none⟩), .pointer (some ⟨W0.heap.size + 1, 0, none⟩), .pointer (some ⟨cy, 0, none⟩), .pointer none] W2 fun e w' => e = .returned (.pointer (some ⟨w.heap.size, 0, none⟩)) ∧ Tz w.heap.size w' w.heap.size m ∧ Below w.heap.size w w') := hide (by
    intro W1 W2 cy vy b1 z1 c1 b2 hy hmm
    have hz1 := hz0.below b1 hz0.lt
    have hz2 := hz1.below b2 hz1.lt
    refine (exp_t w.heap.size (W0.heap.size + 1) cy m vy W2 hz2 W0.heap.size (z1.below b2 z1.lt) ((b2.cell (lt_of_cell? c1)).trans c1) (by omega) hy hmm).mono ?_
    rintro e w' ⟨rfl, h1, h2⟩
    exact ⟨rfl, h1, ((B0.trans (b1.mono (by omega))).trans (b2.mono (by have := b1.size; omega))).trans h2⟩)
  have KM : Hid (∀ W, Tz w.heap.size W w.heap.size m → Below w.heap.size w W → Calls Tryz.prog 200 #[.pointer (some ⟨w.heap.size, 0, none⟩), .pointer (some ⟨w.heap.size, 0, none⟩), .pointer (some ⟨c, 0, none⟩)] W (NewB w (m * n))) := hide (by
    intro W hT hb
    obtain ⟨n0, n1, gy, cy, hzc, hyc, _, _⟩ := h
    refine (mul_t w.heap.size w.heap.size c m n hmn W hT (Bp.below ⟨n0, n1, gy, cy, hzc, hyc, ‹_›, ‹_›⟩ hb) hzc.lt ?_).mono ?_
    · intro g cap hz
      have h1 := hzc.below hb hzc.lt
      unfold Zi at hz h1
      rw [hz] at h1
      simp at h1
      rw [h1.1]
      exact lt_of_cell? hyc
    · rintro e w' ⟨rfl, h1, h2⟩
      exact ⟨_, rfl, h1, Nat.le_refl _, hb.trans h2⟩)
  clear hz0 B0 hmn h hs0
  generalize m * n = mn at *
  rcases hm with ⟨rfl, ht, ht2⟩ | ⟨rfl, rfl⟩ | ⟨rfl, rfl⟩
  · by_cases hlt : t < 0
    · clear ht
      go_enter Tryz.func174, Tryz.ntmps174
      go_wp2_with fail
      refine (unhide K1).mono ?_
      rintro e W1 ⟨rfl, z1, c1, b1⟩
      replace z1 := hide z1
      replace c1 := hide c1
      replace b1 := hide b1
      go_wp2_with fail
      rw [show max t 0 = 0 by omega]
      refine ((unhide K2) _).mono ?_
      rintro e W2 ⟨rfl, z2, b2⟩
      have KE2 := hide ((unhide KE) W1 W2 _ _ (unhide b1) (unhide z1) (unhide c1) b2 z2 (.inl ⟨by first | rfl | trivial, by first | rfl | trivial⟩))
      clear z1 c1 b1 z2 b2 KE K1 K2 K3
      go_wp2_with fail
      refine (unhide KE2).mono ?_
      rintro e W3 ⟨rfl, hT, hb⟩
      have KM2 := hide ((unhide KM) W3 hT hb)
      clear hT hb KE2 KM
      go_wp2_with fail
      refine (unhide KM2).mono ?_
      rintro e W4 ⟨p, rfl, HF⟩
      replace HF := hide HF
      clear KM2
      go_wp2
      go_ret
      exact ⟨p, rfl, unhide HF⟩
    · obtain rfl : t = 0 := by omega
      go_enter Tryz.func174, Tryz.ntmps174
      go_wp2_with fail
      refine (unhide K1).mono ?_
      rintro e W1 ⟨rfl, z1, c1, b1⟩
      replace z1 := hide z1
      replace c1 := hide c1
      replace b1 := hide b1
      go_wp2_with fail
      refine ((unhide K2) _).mono ?_
      rintro e W2 ⟨rfl, z2, b2⟩
      have KE2 := hide ((unhide KE) W1 W2 _ _ (unhide b1) (unhide z1) (unhide c1) b2 z2 (.inl ⟨by first | rfl | trivial, by first | rfl | trivial⟩))
      clear z1 c1 b1 z2 b2 KE K1 K2 K3
      go_wp2_with fail
      refine (unhide KE2).mono ?_
      rintro e W3 ⟨rfl, hT, hb⟩
      have KM2 := hide ((unhide KM) W3 hT hb)
      clear hT hb KE2 KM
      go_wp2_with fail
      refine (unhide KM2).mono ?_
      rintro e W4 ⟨p, rfl, HF⟩
      replace HF := hide HF
      clear KM2
      go_wp2
      go_ret
      exact ⟨p, rfl, unhide HF⟩
  · go_enter Tryz.func174, Tryz.ntmps174
    go_wp2_with fail
    refine (unhide K1).mono ?_
    rintro e W1 ⟨rfl, z1, c1, b1⟩
    replace z1 := hide z1
    replace c1 := hide c1
    replace b1 := hide b1
    go_wp2_with fail
    refine ((unhide K3) 1 (by decide) (by decide) _).mono ?_
    rintro e W2 ⟨rfl, z2, c2, b2⟩
    have KE2 := hide ((unhide KE) W1 W2 _ _ (unhide b1) (unhide z1) (unhide c1) b2 z2 (.inr ⟨_, rfl, .inl ⟨by first | rfl | trivial, c2⟩⟩))
    clear z1 c1 b1 z2 c2 b2 KE K1 K2 K3
    go_wp2_with fail
    refine (unhide KE2).mono ?_
    rintro e W3 ⟨rfl, hT, hb⟩
    have KM2 := hide ((unhide KM) W3 hT hb)
    clear hT hb KE2 KM
    go_wp2_with fail
    refine (unhide KM2).mono ?_
    rintro e W4 ⟨p, rfl, HF⟩
    replace HF := hide HF
    clear KM2
    go_wp2
    go_ret
    exact ⟨p, rfl, unhide HF⟩
  · go_enter Tryz.func174, Tryz.ntmps174
    go_wp2_with fail
    refine (unhide K1).mono ?_
    rintro e W1 ⟨rfl, z1, c1, b1⟩
    replace z1 := hide z1
    replace c1 := hide c1
    replace b1 := hide b1
    go_wp2_with fail
    refine ((unhide K3) 2 (by decide) (by decide) _).mono ?_
    rintro e W2 ⟨rfl, z2, c2, b2⟩
    have KE2 := hide ((unhide KE) W1 W2 _ _ (unhide b1) (unhide z1) (unhide c1) b2 z2 (.inr ⟨_, rfl, .inr ⟨by first | rfl | trivial, c2⟩⟩))
    clear z1 c1 b1 z2 c2 b2 KE K1 K2 K3
    go_wp2_with fail
    refine (unhide KE2).mono ?_
    rintro e W3 ⟨rfl, hT, hb⟩
    have KM2 := hide ((unhide KM) W3 hT hb)
    clear hT hb KE2 KM
    go_wp2_with fail
    refine (unhide KM2).mono ?_
    rintro e W4 ⟨p, rfl, HF⟩
    replace HF := hide HF
    clear KM2
    go_wp2
    go_ret
    exact ⟨p, rfl, unhide HF⟩
end Go.Proofs.YtceflkeaenepcaaGreatDoor
namespace Go.Proofs.YtceflkeaenepcaaGreatDoor
open Go.RowKit
set_option maxRecDepth 20000 in
theorem div64_0 (lo y : Int) (h0 : 0 ≤ lo) (h1 : lo < 18446744073709551616) (hy : 0 < y) (w : World) :
    Calls Tryz.prog 302 #[.int .u64 0, .int .u64 lo, .int .u64 y] w fun e w' => e = .returned (.tuple #[.int .u64 (lo / y), .int .u64 (lo % y)]) ∧ ∃ k, w' = w.drewN k := by
  have hy0 : (y == 0) = false := by simp; omega
  have hy1 : ¬ y = 0 := by omega
  have hy2 : ¬ y ≤ 0 := by omega
  have q1 : 0 ≤ lo / y := Int.ediv_nonneg h0 (by omega)
  have q2 : lo / y ≤ lo := Int.ediv_le_self _ h0
  have q3 : 0 ≤ lo % y := Int.emod_nonneg _ hy1
  have q4 : lo % y < y := Int.emod_lt_of_pos _ hy
  go_enter Tryz.func302, Tryz.ntmps302
  go_wp2
  go_quiet (fail)
  go_wp2
  go_ret2
  exact ⟨rfl, _, rfl⟩
set_option maxRecDepth 20000 in
theorem divU_0 (lo y : Int) (h0 : 0 ≤ lo) (h1 : lo < 18446744073709551616) (hy : 0 < y) (w : World) :
    Calls Tryz.prog 271 #[.int .u64 0, .int .u64 lo, .int .u64 y] w fun e w' => e = .returned (.tuple #[.int .u64 (lo / y), .int .u64 (lo % y)]) ∧ ∃ k, w' = w.drewN k := by
  have K := hide (div64_0 lo y h0 h1 hy)
  generalize lo / y = q at *
  generalize lo % y = r at *
  go_enter Tryz.func271, Tryz.ntmps271
  go_wp2_with fail
  refine ((unhide K) _).mono ?_
  rintro e w1 ⟨rfl, k, rfl⟩
  go_wp2
  go_ret2
  exact ⟨rfl, k, rfl⟩
set_option maxRecDepth 20000 in
theorem divWVW_1 (lo y : Int) (h0 : 0 ≤ lo) (h1 : lo < 18446744073709551616) (hy : 0 < y) (gz cz gx cx : Nat) (u : Value) (w : World) (hx : w.cell? ⟨gx, 0, none⟩ = some (.int .u64 lo)) (hz : w.cell? ⟨gz, 0, none⟩ = some u) (hf : w.frozen? ⟨gz, 0, none⟩ = false) :
    Calls Tryz.prog 242 #[.slice (some ⟨gz, 0, none⟩) 1 cz, .int .u64 0, .slice (some ⟨gx, 0, none⟩) 1 cx, .int .u64 y] w fun e w' => e = .returned (.int .u64 (lo % y)) ∧ ∃ k, w' = (w.setCell ⟨gz, 0, none⟩ (.int .u64 (lo / y))).drewN k := by
  have K := hide (divU_0 lo y h0 h1 hy)
  generalize lo / y = q at *
  generalize lo % y = r at *
  go_enter Tryz.func242, Tryz.ntmps242
  go_wp2_with fail
  refine ((unhide K) _).mono ?_
  rintro e w1 ⟨rfl, k, rfl⟩
  go_wp2
  go_ret
  exact ⟨rfl, k, rfl⟩
set_option maxRecDepth 20000 in
theorem divW_1 (lo y : Int) (h0 : 0 ≤ lo) (h1 : lo < 18446744073709551616) (hy : 1 < y) (gx cx : Nat) (w : World) (hx : w.cell? ⟨gx, 0, none⟩ = some (.int .u64 lo)) :
    Calls Tryz.prog 228 #[.slice none 0 0, .slice (some ⟨gx, 0, none⟩) 1 cx, .int .u64 y] w fun e w' => e = .returned (.tuple #[.slice (some ⟨w.heap.size, 0, none⟩) (if lo / y = 0 then 0 else 1) 1, .int .u64 (lo % y)]) ∧ ∃ k, w' = (w.alloc (.cells #[.int .u64 (lo / y)] 246)).drewN k := by
  have hb := lt_of_cell? hx
  have K1 := hide (make_one none 0 w)
  have K2 := hide (divWVW_1 lo y h0 h1 (by omega))
  have K3 := hide norm_one
  have K4 := hide norm_zero
  have hy0 : (y == 0) = false := by simp; omega
  have hy1 : (y == 1) = false := by simp; omega
  have q0 : 0 ≤ lo / y := Int.ediv_nonneg h0 (by omega)
  have hc1 : (w.alloc (.cells #[.int .u64 0] 246)).cell? ⟨gx, 0, none⟩ = some (.int .u64 lo) := by
    rw [((Below.refl w.heap.size w).alloc (Nat.le_refl _) _).cell hb]; exact hx
  clear hx
  generalize lo % y = r at *
  by_cases hq : lo / y = 0
  · rw [if_pos hq]
    rw [hq] at K2 ⊢
    clear hq q0
    go_enter Tryz.func228, Tryz.ntmps228
    go_wp2_with fail
    refine (unhide K1).mono ?_
    rintro e w1 ⟨rfl, rfl⟩
    go_wp2_with fail
    refine ((unhide K2) w.heap.size 1 gx cx (.int .u64 0) _ hc1 (by simp [go_sem]) (by simp [go_sem])).mono ?_
    rintro e w2 ⟨rfl, k, rfl⟩
    go_wp2_with fail
    refine ((unhide K4) w.heap.size 1 _ (by decide) (by decide) (by simp [go_sem])).mono ?_
    rintro e w3 ⟨rfl, rfl⟩
    go_wp2
    go_ret2
    exact ⟨rfl, k, rfl⟩
  · rw [if_neg hq]
    have hqp : 0 < lo / y := by omega
    generalize lo / y = q at *
    clear hq q0
    go_enter Tryz.func228, Tryz.ntmps228
    go_wp2_with fail
    refine (unhide K1).mono ?_
    rintro e w1 ⟨rfl, rfl⟩
    go_wp2_with fail
    refine ((unhide K2) w.heap.size 1 gx cx (.int .u64 0) _ hc1 (by simp [go_sem]) (by simp [go_sem])).mono ?_
    rintro e w2 ⟨rfl, k, rfl⟩
    go_wp2_with fail
    refine ((unhide K3) w.heap.size 1 q _ hqp (by decide) (by decide) (by simp [go_sem])).mono ?_
    rintro e w3 ⟨rfl, rfl⟩
    go_wp2
    go_ret2
    exact ⟨rfl, k, rfl⟩
end Go.Proofs.YtceflkeaenepcaaGreatDoor
namespace Go.Proofs.YtceflkeaenepcaaGreatDoor
open Go.RowKit
set_option maxRecDepth 20000 in
theorem setWord_0 (w : World) : Calls Tryz.prog 212 #[.slice none 0 0, .int .u64 0] w fun e w' => e = .returned (.slice none 0 0) ∧ w' = w := by
  go_enter Tryz.func212, Tryz.ntmps212
  go_wp2
  go_ret
  exact ⟨rfl, rfl⟩
def Qr (B : Nat) (W : World) (vq vr : Value) (q r : Int) : Prop := ∃ gq lq, vq = .slice (some ⟨gq, 0, none⟩) lq 1 ∧ B ≤ gq ∧ W.cell? ⟨gq, 0, none⟩ = some (.int .u64 q) ∧ ((lq = 0 ∧ q = 0) ∨ (lq = 1 ∧ 0 < q)) ∧ ((r = 0 ∧ vr = .slice none 0 0) ∨ (0 < r ∧ ∃ gr, vr = .slice (some ⟨gr, 0, none⟩) 1 1 ∧ B ≤ gr ∧ W.cell? ⟨gr, 0, none⟩ = some (.int .u64 r)))
set_option maxRecDepth 4000 in
theorem ndiv (lo y : Int) (h0 : 0 ≤ lo) (h1 : lo < 18446744073709551616) (hy : 1 < y) (gx cx gy cy : Nat) (w : World) (hx : w.cell? ⟨gx, 0, none⟩ = some (.int .u64 lo)) (hyc : w.cell? ⟨gy, 0, none⟩ = some (.int .u64 y)) :
    Calls Tryz.prog 214 #[.slice none 0 0, .pointer none, .slice none 0 0, .slice (some ⟨gx, 0, none⟩) 1 cx, .slice (some ⟨gy, 0, none⟩) 1 cy] w fun e w' => ∃ vq vr, e = .returned (.tuple #[vq, vr]) ∧ Qr w.heap.size w' vq vr (lo / y) (lo % y) ∧ Below w.heap.size w w' := by
  have q0 : 0 ≤ lo / y := Int.ediv_nonneg h0 (by omega)
  have r0 : 0 ≤ lo % y := Int.emod_nonneg _ (by omega)
  have K : Hid (∀ w, w.cell? ⟨gx, 0, none⟩ = some (.int .u64 lo) → ∃ lq, ((lq = 0 ∧ lo / y = 0) ∨ (lq = 1 ∧ 0 < lo / y)) ∧ Calls Tryz.prog 228 #[.slice none 0 0, .slice (some ⟨gx, 0, none⟩) 1 cx, .int .u64 y] w fun e w' => e = .returned (.tuple #[.slice (some ⟨w.heap.size, 0, none⟩) lq 1, .int .u64 (lo % y)]) ∧ ∃ k, w' = (w.alloc (.cells #[.int .u64 (lo / y)] 246)).drewN k) := hide (fun w hx => ⟨_, by
    by_cases hq : lo / y = 0
    · rw [if_pos hq]; exact .inl ⟨rfl, hq⟩
    · rw [if_neg hq]; exact .inr ⟨rfl, by omega⟩, divW_1 lo y h0 h1 hy gx cx w hx⟩)
  have K2 := hide setWord_0
  have K3 := hide (fun w h => setWord_new none 0 (lo % y) h w)
  generalize lo / y = q at *
  generalize lo % y = r at *
  obtain ⟨lq, hlq, K⟩ := (unhide K) w hx
  replace K := hide K
  have HW : Hid (∀ k, Below w.heap.size w ((w.alloc (.cells #[.int .u64 q] 246)).drewN k) ∧ ((w.alloc (.cells #[.int .u64 q] 246)).drewN k).cell? ⟨w.heap.size, 0, none⟩ = some (.int .u64 q)) := hide (by
    intro k
    have c1 : (w.alloc (.cells #[.int .u64 q] 246)).cell? ⟨w.heap.size, 0, none⟩ = some (.int .u64 q) := by simp [go_sem]
    exact ⟨((Below.refl w.heap.size w).alloc (Nat.le_refl _) _).trans ⟨rfl, rfl, rfl, Nat.le_refl _, fun _ _ => rfl⟩, c1⟩)
  by_cases hr : r = 0
  · subst hr
    go_enter_defers Tryz.func214, Tryz.ntmps214
    go_wp2_with fail
    refine (unhide K).mono ?_
    rintro e w1 ⟨rfl, k, rfl⟩
    obtain ⟨b1, c1⟩ := (unhide HW) k
    replace b1 := hide b1
    replace c1 := hide c1
    go_wp2_with fail
    refine ((unhide K2) _).mono ?_
    rintro e w2 ⟨rfl, rfl⟩
    go_wp2
    exact ret_defers (.tuple #[.slice (some ⟨w.heap.size, 0, none⟩) lq 1, .slice none 0 0]) rfl (by simp [results, Tryz.results214, go_sem]) ⟨_, _, rfl, ⟨_, _, rfl, Nat.le_refl _, unhide c1, hlq, .inl ⟨rfl, rfl⟩⟩, unhide b1⟩
  · have hrp : 0 < r := by omega
    clear hr
    go_enter_defers Tryz.func214, Tryz.ntmps214
    go_wp2_with fail
    refine (unhide K).mono ?_
    rintro e w1 ⟨rfl, k, rfl⟩
    obtain ⟨b1, c1⟩ := (unhide HW) k
    generalize (w.alloc (.cells #[.int .u64 q] 246)).drewN k = W1 at *
    have b2 := (Below.refl W1.heap.size W1).alloc (Nat.le_refl _) (.cells #[.int .u64 r] 246)
    have c2 : (W1.alloc (.cells #[.int .u64 r] 246)).cell? ⟨W1.heap.size, 0, none⟩ = some (.int .u64 r) := by simp [go_sem]
    have HF : Hid (Qr w.heap.size (W1.alloc (.cells #[.int .u64 r] 246)) (.slice (some ⟨w.heap.size, 0, none⟩) lq 1) (.slice (some ⟨W1.heap.size, 0, none⟩) 1 1) q r ∧ Below w.heap.size w (W1.alloc (.cells #[.int .u64 r] 246))) := hide
      ⟨⟨_, _, rfl, Nat.le_refl _, (b2.cell (lt_of_cell? c1)).trans c1, hlq, .inr ⟨hrp, _, rfl, b1.size, c2⟩⟩, b1.trans (b2.mono b1.size)⟩
    clear b1 c1 b2 c2 HW K
    go_wp2_with fail
    refine ((unhide K3) _ hrp).mono ?_
    rintro e w2 ⟨rfl, rfl⟩
    go_wp2
    exact ret_defers (.tuple #[.slice (some ⟨w.heap.size, 0, none⟩) lq 1, .slice (some ⟨W1.heap.size, 0, none⟩) 1 1]) rfl (by simp [results, Tryz.results214, go_sem]) ⟨_, _, rfl, unhide HF⟩
end Go.Proofs.YtceflkeaenepcaaGreatDoor
namespace Go.Proofs.YtceflkeaenepcaaGreatDoor
open Go.RowKit
theorem dN6 (w : World) (a b : Nat) : (w.drewN a).drewN b = w.drewN (a + b) := by simp
set_option maxRecDepth 20000 in
theorem uint64_q (B b : Nat) (W : World) (vq vr : Value) (q r : Int) (hz : Zi W b vq) (h : Qr B W vq vr q r) :
    Calls Tryz.prog 197 #[.pointer (some ⟨b, 0, none⟩)] W fun e w' => e = .returned (.int .u64 q) ∧ w' = W := by
  obtain ⟨gq, lq, rfl, _, cq, hlq, _⟩ := h
  have z1 := hz.c1
  clear hz
  rcases hlq with ⟨rfl, rfl⟩ | ⟨rfl, hq⟩
  · go_enter Tryz.func197, Tryz.ntmps197
    go_wp2
    go_ret
    exact ⟨rfl, rfl⟩
  · go_enter Tryz.func197, Tryz.ntmps197
    go_wp2
    go_ret
    exact ⟨rfl, rfl⟩
def cmp3 (a b : Int) : Int := if a < b then -1 else if b < a then 1 else 0
set_option maxRecDepth 20000 in
theorem ncmp_0 (gy cy : Nat) (W : World) :
    Calls Tryz.prog 216 #[.slice none 0 0, .slice (some ⟨gy, 0, none⟩) 1 cy] W fun e w' => e = .returned (.int .i64 (-1)) ∧ ∃ k, w' = W.drewN k := by
  go_enter Tryz.func216, Tryz.ntmps216
  go_wp2
  go_ret
  exact ⟨rfl, 0, rfl⟩
set_option maxRecDepth 20000 in
theorem ncmp_1 (gx cx gy cy : Nat) (a b : Int) (W : World) (hx : W.cell? ⟨gx, 0, none⟩ = some (.int .u64 a)) (hy : W.cell? ⟨gy, 0, none⟩ = some (.int .u64 b)) :
    Calls Tryz.prog 216 #[.slice (some ⟨gx, 0, none⟩) 1 cx, .slice (some ⟨gy, 0, none⟩) 1 cy] W fun e w' => e = .returned (.int .i64 (cmp3 a b)) ∧ ∃ k, w' = W.drewN k := by
  have c0 : a < b → cmp3 a b = -1 := fun h => by unfold cmp3; rw [if_pos h]
  have c1 : b < a → cmp3 a b = 1 := fun h => by unfold cmp3; rw [if_neg (by omega), if_pos h]
  have c2 : a = b → cmp3 a b = 0 := fun h => by unfold cmp3; rw [if_neg (by omega), if_neg (by omega)]
  generalize cmp3 a b = cc at *
  rcases Int.lt_trichotomy a b with h | h | h
  · rw [c0 h]
    clear c0 c1 c2
    go_enter Tryz.func216, Tryz.ntmps216
    go_wp2
    go_loopw [7] (fun i wr => i = .int .i64 0 ∧ ∃ k, wr = W.drewN k) (fun _ _ => 0)
    case atStart => exact ⟨rfl, 0, rfl⟩
    case round =>
      obtain ⟨rfl, k, rfl⟩ := hrel
      go_wp2
      go_quiet (fail)
      go_wp2
      go_quiet (fail)
      go_wp2
      go_ret
      exact ⟨rfl, by simp only [dN6]; exact ⟨_, rfl⟩⟩
  · rw [c2 h]
    clear c0 c1 c2
    subst h
    go_enter Tryz.func216, Tryz.ntmps216
    go_wp2
    go_loopw [7] (fun i wr => i = .int .i64 0 ∧ ∃ k, wr = W.drewN k) (fun _ _ => 0)
    case atStart => exact ⟨rfl, 0, rfl⟩
    case round =>
      obtain ⟨rfl, k, rfl⟩ := hrel
      go_wp2
      go_quiet (fail)
      go_wp2
      go_quiet (fail)
      go_wp2
      go_quiet (fail)
      go_wp2
      go_ret
      exact ⟨rfl, by simp only [dN6]; exact ⟨_, rfl⟩⟩
  · rw [c1 h]
    clear c0 c1 c2
    have hn : ¬ a < b := by omega
    go_enter Tryz.func216, Tryz.ntmps216
    go_wp2
    go_loopw [7] (fun i wr => i = .int .i64 0 ∧ ∃ k, wr = W.drewN k) (fun _ _ => 0)
    case atStart => exact ⟨rfl, 0, rfl⟩
    case round =>
      obtain ⟨rfl, k, rfl⟩ := hrel
      go_wp2
      go_quiet (fail)
      go_wp2
      go_quiet (fail)
      go_wp2
      go_quiet (fail)
      go_wp2
      go_ret
      exact ⟨rfl, by simp only [dN6]; exact ⟨_, rfl⟩⟩
set_option linter.unusedSimpArgs false in
set_option maxRecDepth 20000 in
theorem icmp (b c : Nat) (vx vy : Value) (s : Int) (W : World) (hb : Zi W b vx) (hc : Zi W c vy) (hne : b ≠ c) (hK : ∀ w, w.heap = W.heap → Calls Tryz.prog 216 #[vx, vy] w fun e w' => e = .returned (.int .i64 s) ∧ ∃ k, w' = w.drewN k) :
    Calls Tryz.prog 198 #[.pointer (some ⟨b, 0, none⟩), .pointer (some ⟨c, 0, none⟩)] W fun e w' => e = .returned (.int .i64 s) ∧ ∃ k, w' = W.drewN k := by
  have hpe := ptr_ne6 hb hc hne
  have x0 := hb.c0
  have x1 := hb.c1
  have y0 := hc.c0
  have y1 := hc.c1
  have KC := hide hK
  clear hb hc hK
  go_enter Tryz.func198, Tryz.ntmps198
  go_wp2
  go_quiet (fail)
  go_wp2
  refine wp_region_held_drew (S := fun w' => w'.cell? ⟨b, 1, none⟩ = some vx ∧ w'.cell? ⟨c, 1, none⟩ = some vy) (by kernel_rfl) (⟨x1, y1⟩) (fun hHeld => ?_)
  refine wpAnyH_take (i := 0) (v := (.pointer (some ⟨b, 0, none⟩))) rfl (by kernel_rfl) (by kernel_rfl) (by kernel_rfl) (fun _ _ _ h => h) (Or.inl ⟨by kernel_rfl, ?_⟩) hHeld ?_
  · intro w hSw
    go_simp
  try simp only [Act.put, List.setIfInBounds_toArray, List.set_cons_zero, List.set_cons_succ]
  refine wpAnyH_take (i := 1) (v := (.pointer (some ⟨b, 0, none⟩))) rfl (by kernel_rfl) (by kernel_rfl) (by kernel_rfl) (fun _ _ _ h => h) (Or.inl ⟨by kernel_rfl, ?_⟩) hHeld ?_
  · intro w hSw
    go_simp
  try simp only [Act.put, List.setIfInBounds_toArray, List.set_cons_zero, List.set_cons_succ]
  refine wpAnyH_take (i := 2) (v := (.pointer (some ⟨b, 1, none⟩))) rfl (by kernel_rfl) (by kernel_rfl) (by kernel_rfl) (fun _ _ _ h => h) (Or.inl ⟨by kernel_rfl, ?_⟩) hHeld ?_
  · intro w hSw
    go_simp
  try simp only [Act.put, List.setIfInBounds_toArray, List.set_cons_zero, List.set_cons_succ]
  refine wpAnyH_take (i := 3) (v := vx) rfl (by kernel_rfl) (by kernel_rfl) (by kernel_rfl) (fun _ _ _ h => h) (Or.inl ⟨by kernel_rfl, ?_⟩) hHeld ?_
  · intro w hSw
    have := hSw.1; go_simp
  try simp only [Act.put, List.setIfInBounds_toArray, List.set_cons_zero, List.set_cons_succ]
  refine wpAnyH_take (i := 4) (v := (.pointer (some ⟨c, 0, none⟩))) rfl (by kernel_rfl) (by kernel_rfl) (by kernel_rfl) (fun _ _ _ h => h) (Or.inl ⟨by kernel_rfl, ?_⟩) hHeld ?_
  · intro w hSw
    go_simp
  try simp only [Act.put, List.setIfInBounds_toArray, List.set_cons_zero, List.set_cons_succ]
  refine wpAnyH_take (i := 5) (v := (.pointer (some ⟨c, 0, none⟩))) rfl (by kernel_rfl) (by kernel_rfl) (by kernel_rfl) (fun _ _ _ h => h) (Or.inl ⟨by kernel_rfl, ?_⟩) hHeld ?_
  · intro w hSw
    go_simp
  try simp only [Act.put, List.setIfInBounds_toArray, List.set_cons_zero, List.set_cons_succ]
  refine wpAnyH_take (i := 6) (v := (.pointer (some ⟨c, 1, none⟩))) rfl (by kernel_rfl) (by kernel_rfl) (by kernel_rfl) (fun _ _ _ h => h) (Or.inl ⟨by kernel_rfl, ?_⟩) hHeld ?_
  · intro w hSw
    go_simp
  try simp only [Act.put, List.setIfInBounds_toArray, List.set_cons_zero, List.set_cons_succ]
  refine wpAnyH_take (i := 7) (v := vy) rfl (by kernel_rfl) (by kernel_rfl) (by kernel_rfl) (fun _ _ _ h => h) (Or.inl ⟨by kernel_rfl, ?_⟩) hHeld ?_
  · intro w hSw
    have := hSw.2; go_simp
  try simp only [Act.put, List.setIfInBounds_toArray, List.set_cons_zero, List.set_cons_succ]
  refine wpAnyH_ready (rs := [8]) (by kernel_rfl) (by simp) ?_
  refine AllReadyH.cons rfl (fun K hK => ?_) AllReadyH.nil
  go_simp
  refine ((unhide KC) _ (by rfl)).mono ?_
  rintro e w1 ⟨rfl, k, rfl⟩
  refine hK.out _ _ ?_ (fun hHeld => ?_)
  · exact ⟨x1, y1⟩
  clear hK K
  try simp only [Act.put, List.setIfInBounds_toArray, List.set_cons_zero, List.set_cons_succ]
  refine wpAnyH_take (i := 9) (v := (.int .i64 s)) rfl (by kernel_rfl) (by kernel_rfl) (by kernel_rfl) (fun _ _ _ h => h) (Or.inl ⟨by kernel_rfl, ?_⟩) hHeld ?_
  · intro w hSw
    go_simp
  try simp only [Act.put, List.setIfInBounds_toArray, List.set_cons_zero, List.set_cons_succ]
  refine wpAnyH_done (by kernel_rfl) ?_ _
  go_wp2
  go_ret
  first | exact ⟨rfl, _, rfl⟩ | exact ⟨rfl, by simp only [dN6]; exact ⟨_, rfl⟩⟩
set_option maxRecDepth 20000 in
theorem bitLen_2 (c : Nat) (W : World) (h : Bp W c 2) : Calls Tryz.prog 209 #[.pointer (some ⟨c, 0, none⟩)] W fun e w' => e = .returned (.int .i64 2) ∧ w' = W := by
  obtain ⟨_, _, g, cap, hz, hg, _, _⟩ := h
  have z1 := hz.c1
  have K : Hid (Calls Tryz.prog 239 #[.int .u64 3] W fun e w' => e = .returned (.int .i64 2) ∧ w' = W) := hide (Tryz.bits_Len 3 W (by decide) (by decide))
  have e0 : bits BinOp.or IntKind.u64 2 1 = 3 := by decide
  have e1 : bits BinOp.or IntKind.u64 3 0 = 3 := by decide
  clear hz
  go_enter Tryz.func209, Tryz.ntmps209
  go_wp2_with (first | (go_at_call 239; refine (unhide K).mono ?_; rintro e w ⟨rfl, rfl⟩) | go_in)
  go_ret
  exact ⟨rfl, rfl⟩
set_option maxRecDepth 20000 in
theorem bitLen_3 (c : Nat) (W : World) (h : Bp W c 3) : Calls Tryz.prog 209 #[.pointer (some ⟨c, 0, none⟩)] W fun e w' => e = .returned (.int .i64 2) ∧ w' = W := by
  obtain ⟨_, _, g, cap, hz, hg, _, _⟩ := h
  have z1 := hz.c1
  have K : Hid (Calls Tryz.prog 239 #[.int .u64 3] W fun e w' => e = .returned (.int .i64 2) ∧ w' = W) := hide (Tryz.bits_Len 3 W (by decide) (by decide))
  have e0 : bits BinOp.or IntKind.u64 3 0 = 3 := by decide
  have e1 : bits BinOp.or IntKind.u64 3 1 = 3 := by decide
  clear hz
  go_enter Tryz.func209, Tryz.ntmps209
  go_wp2_with (first | (go_at_call 239; refine (unhide K).mono ?_; rintro e w ⟨rfl, rfl⟩) | go_in)
  go_ret
  exact ⟨rfl, rfl⟩
set_option maxRecDepth 20000 in
theorem bitLen_10 (c : Nat) (W : World) (h : Bp W c 10) : Calls Tryz.prog 209 #[.pointer (some ⟨c, 0, none⟩)] W fun e w' => e = .returned (.int .i64 4) ∧ w' = W := by
  obtain ⟨_, _, g, cap, hz, hg, _, _⟩ := h
  have z1 := hz.c1
  have K : Hid (Calls Tryz.prog 239 #[.int .u64 15] W fun e w' => e = .returned (.int .i64 4) ∧ w' = W) := hide (Tryz.bits_Len 15 W (by decide) (by decide))
  have e0 : bits BinOp.or IntKind.u64 10 5 = 15 := by decide
  have e1 : bits BinOp.or IntKind.u64 15 0 = 15 := by decide
  have e2 : bits BinOp.or IntKind.u64 15 3 = 15 := by decide
  clear hz
  go_enter Tryz.func209, Tryz.ntmps209
  go_wp2_with (first | (go_at_call 239; refine (unhide K).mono ?_; rintro e w ⟨rfl, rfl⟩) | go_in)
  go_ret
  exact ⟨rfl, rfl⟩
set_option maxRecDepth 20000 in
theorem bitLen_25 (c : Nat) (W : World) (h : Bp W c 25) : Calls Tryz.prog 209 #[.pointer (some ⟨c, 0, none⟩)] W fun e w' => e = .returned (.int .i64 5) ∧ w' = W := by
  obtain ⟨_, _, g, cap, hz, hg, _, _⟩ := h
  have z1 := hz.c1
  have K : Hid (Calls Tryz.prog 239 #[.int .u64 31] W fun e w' => e = .returned (.int .i64 5) ∧ w' = W) := hide (Tryz.bits_Len 31 W (by decide) (by decide))
  have e0 : bits BinOp.or IntKind.u64 25 12 = 29 := by decide
  have e1 : bits BinOp.or IntKind.u64 29 7 = 31 := by decide
  have e2 : bits BinOp.or IntKind.u64 31 0 = 31 := by decide
  have e3 : bits BinOp.or IntKind.u64 31 1 = 31 := by decide
  clear hz
  go_enter Tryz.func209, Tryz.ntmps209
  go_wp2_with (first | (go_at_call 239; refine (unhide K).mono ?_; rintro e w ⟨rfl, rfl⟩) | go_in)
  go_ret
  exact ⟨rfl, rfl⟩
set_option maxRecDepth 20000 in
theorem bitLen_100 (c : Nat) (W : World) (h : Bp W c 100) : Calls Tryz.prog 209 #[.pointer (some ⟨c, 0, none⟩)] W fun e w' => e = .returned (.int .i64 7) ∧ w' = W := by
  obtain ⟨_, _, g, cap, hz, hg, _, _⟩ := h
  have z1 := hz.c1
  have K : Hid (Calls Tryz.prog 239 #[.int .u64 127] W fun e w' => e = .returned (.int .i64 7) ∧ w' = W) := hide (Tryz.bits_Len 127 W (by decide) (by decide))
  have e0 : bits BinOp.or IntKind.u64 100 50 = 118 := by decide
  have e1 : bits BinOp.or IntKind.u64 118 29 = 127 := by decide
  have e2 : bits BinOp.or IntKind.u64 127 0 = 127 := by decide
  have e3 : bits BinOp.or IntKind.u64 127 7 = 127 := by decide
  clear hz
  go_enter Tryz.func209, Tryz.ntmps209
  go_wp2_with (first | (go_at_call 239; refine (unhide K).mono ?_; rintro e w ⟨rfl, rfl⟩) | go_in)
  go_ret
  exact ⟨rfl, rfl⟩
end Go.Proofs.YtceflkeaenepcaaGreatDoor
