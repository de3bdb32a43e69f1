import Derived.Test.YtceflkeaenepcaaGreatDoorN18
import Derived.Test.YtceflkeaenepcaaGreatDoorN17
import Derived.Laws.Externs
import Derived.Laws.FloatArith
namespace Go.Proofs.YtceflkeaenepcaaGreatDoor
open Go.RowKit
def arn (n d : Int) : Int × Int := if 0 < cmp3 (n % d * 2) d ∨ (cmp3 (n % d * 2) d = 0 ∧ n / d % 2 = 1) then (n / d + 1, n / d) else (n / d, n / d + 1)
theorem lsh_cmp (B BQ b c gy ky : Nat) (vq vr : Value) (q r d : Int) (W : World) (hz : Zi W b vr) (hQ : Qr BQ W vq vr q r) (hBb : B ≤ b) (hc : Zi W c (.slice (some ⟨gy, 0, none⟩) 1 ky)) (hg : W.cell? ⟨gy, 0, none⟩ = some (.int .u64 d)) (hd : 0 < d) (hcB : c < B) (hgB : gy < B) (hr : r * 2 < 18446744073709551616) :
    Calls Tryz.prog 188 #[.pointer (some ⟨b, 0, none⟩), .pointer (some ⟨b, 0, none⟩), .int .u64 1] W fun e w' => e = .returned (.pointer (some ⟨b, 0, none⟩)) ∧ Below B W w' ∧ Calls Tryz.prog 198 #[.pointer (some ⟨b, 0, none⟩), .pointer (some ⟨c, 0, none⟩)] w' fun e w'' => e = .returned (.int .i64 (cmp3 (r * 2) d)) ∧ Below B W w'' := by
  obtain ⟨gq, lq, _, _, _, _, h⟩ := hQ
  have hbW := hz.lt
  rcases h with ⟨rfl, rfl⟩ | ⟨hrp, gr, rfl, _, hcr⟩
  · refine (ilsh b b _ _ none 0 0 1 W (fun W1 => W1 = W.drew) hz hz.c0 hz.c1 (lsh_none none 0 1 (by decide) W.drew) ?_).mono ?_
    · rintro _ rfl; exact drew_below W
    · rintro e w' ⟨rfl, W1, rfl, rfl⟩
      have hz1 : Zi W.drew b (.slice none 0 0) := hz
      have hc1 : Zi W.drew c (.slice (some ⟨gy, 0, none⟩) 1 ky) := hc
      have b1 : Below B W ((W.drew.setCell ⟨b, 1, none⟩ (.slice none 0 0)).setCell ⟨b, 0, none⟩ (.bool false)) := (((drew_below W).mono (by omega)).trans (below_set6 hBb 1 _)).trans (below_set6 hBb 0 _)
      refine ⟨rfl, b1, ?_⟩
      have hs : cmp3 (0 * 2) d = -1 := by unfold cmp3; rw [if_pos (by omega)]
      rw [hs]
      refine (icmp b c _ _ (-1) _ ((hz1.set _).keep) ((hc1.far (by omega)).far (by omega)) (by omega) (fun w _ => ncmp_0 gy ky w)).mono ?_
      rintro e w'' ⟨rfl, k, rfl⟩
      exact ⟨rfl, b1.trans ⟨rfl, rfl, rfl, Nat.le_refl _, fun _ _ => rfl⟩⟩
  · refine (ilsh b b _ _ (some ⟨W.heap.size, 0, none⟩) 1 6 1 W (fun W1 => W1 = W.drew.alloc (.cells #[.int .u64 (r * 2), .int .u64 0, .int .u64 0, .int .u64 0, .int .u64 0, .int .u64 0] 246)) hz hz.c0 hz.c1 (lsh_s 1 2 (.inl ⟨rfl, rfl⟩) (some ⟨gr, 0, none⟩) 1 1 (by omega) gr 1 r W.drew hrp hr hcr) ?_).mono ?_
    · rintro _ rfl
      exact (drew_below W).trans ((Below.refl W.drew.heap.size W.drew).alloc (Nat.le_refl _) _)
    · rintro e w' ⟨rfl, W1, rfl, rfl⟩
      have b0 : Below W.heap.size W (W.drew.alloc (.cells #[.int .u64 (r * 2), .int .u64 0, .int .u64 0, .int .u64 0, .int .u64 0, .int .u64 0] 246)) := (drew_below W).trans ((Below.refl W.drew.heap.size W.drew).alloc (Nat.le_refl _) _)
      have hc0 : (W.drew.alloc (.cells #[.int .u64 (r * 2), .int .u64 0, .int .u64 0, .int .u64 0, .int .u64 0, .int .u64 0] 246)).cell? ⟨W.drew.heap.size, 0, none⟩ = some (.int .u64 (r * 2)) := by
        generalize W.drew = W0
        simp [go_sem]
      have hc0' : (W.drew.alloc (.cells #[.int .u64 (r * 2), .int .u64 0, .int .u64 0, .int .u64 0, .int .u64 0, .int .u64 0] 246)).cell? ⟨W.heap.size, 0, none⟩ = some (.int .u64 (r * 2)) := hc0
      generalize W.drew.alloc (.cells #[.int .u64 (r * 2), .int .u64 0, .int .u64 0, .int .u64 0, .int .u64 0, .int .u64 0] 246) = W2 at *
      have hz1 := hz.below b0 hbW
      have hc1 := hc.below b0 hc.lt
      have hg1 := (b0.cell (lt_of_cell? hg)).trans hg
      have b1 : Below B W ((W2.setCell ⟨b, 1, none⟩ (.slice (some ⟨W.heap.size, 0, none⟩) 1 6)).setCell ⟨b, 0, none⟩ (.bool false)) := ((b0.mono (by omega)).trans (below_set6 hBb 1 _)).trans (below_set6 hBb 0 _)
      refine ⟨rfl, b1, ?_⟩
      have k1 : ((W2.setCell ⟨b, 1, none⟩ (.slice (some ⟨W.heap.size, 0, none⟩) 1 6)).setCell ⟨b, 0, none⟩ (.bool false)).cell? ⟨W.heap.size, 0, none⟩ = some (.int .u64 (r * 2)) := by rw [cell_set6 (by omega), cell_set6 (by omega)]; exact hc0'
      have k2 : ((W2.setCell ⟨b, 1, none⟩ (.slice (some ⟨W.heap.size, 0, none⟩) 1 6)).setCell ⟨b, 0, none⟩ (.bool false)).cell? ⟨gy, 0, none⟩ = some (.int .u64 d) := by rw [cell_set6 (by omega), cell_set6 (by omega)]; exact hg1
      refine (icmp b c _ _ (cmp3 (r * 2) d) _ ((hz1.set _).keep) ((hc1.far (by omega)).far (by omega)) (by omega) (fun w hw => ncmp_1 W.heap.size 6 gy ky (r * 2) d w ?_ ?_)).mono ?_
      · rw [← k1]; simp only [World.cell?, hw]
      · rw [← k2]; simp only [World.cell?, hw]
      rintro e w'' ⟨rfl, k, rfl⟩
      exact ⟨rfl, b1.trans ⟨rfl, rfl, rfl, Nat.le_refl _, fun _ _ => rfl⟩⟩
theorem cmp3_cases (a b : Int) : cmp3 a b = -1 ∨ cmp3 a b = 0 ∨ cmp3 a b = 1 := by
  unfold cmp3
  split
  · exact .inl rfl
  · split
    · exact .inr (.inr rfl)
    · exact .inr (.inl rfl)
set_option maxRecDepth 20000 in
theorem around_any (cn cd : Nat) (n d : Int) (w : World) (hn : Bp w cn n) (hd : Bp w cd d) (hd1 : 1 < d) (hr : n % d * 2 < 18446744073709551616) (hq : n / d + 1 < 18446744073709551616) :
    Calls Tryz.prog 173 #[.pointer (some ⟨cn, 0, none⟩), .pointer (some ⟨cd, 0, none⟩)] w fun e w' => e = .returned (.tuple #[.int .u64 (arn n d).1, .int .u64 (arn n d).2]) ∧ Below w.heap.size w w' := by
  obtain ⟨n0, n1, gn, kn, hzn, hgn, _, _⟩ := hn
  obtain ⟨d0, d1, gd, kd, hzd, hgd, _, _⟩ := hd
  have q0 : 0 ≤ n / d := Int.ediv_nonneg (by omega) (by omega)
  have r0 : 0 ≤ n % d := Int.emod_nonneg _ (by omega)
  have L1 := hzn.lt
  have L2 := hzd.lt
  have L4 := lt_of_cell? hgd
  have z1 : Zi (w.alloc (.cells #[.bool false, .slice none 0 0] 227)) w.heap.size (.slice none 0 0) := Zi.alloc w _
  have B1 : Below w.heap.size w (w.alloc (.cells #[.bool false, .slice none 0 0] 227)) := (Below.refl w.heap.size w).alloc (Nat.le_refl _) _
  have s1 : (w.alloc (.cells #[.bool false, .slice none 0 0] 227)).heap.size = w.heap.size + 1 := by simp
  obtain ⟨W0, hW0⟩ : ∃ W0, w.alloc (.cells #[.bool false, .slice none 0 0] 227) = W0 := ⟨_, rfl⟩
  rw [hW0] at z1 B1 s1
  have z2 : Zi (W0.alloc (.cells #[.bool false, .slice none 0 0] 227)) W0.heap.size (.slice none 0 0) := Zi.alloc W0 _
  have B2 : Below W0.heap.size W0 (W0.alloc (.cells #[.bool false, .slice none 0 0] 227)) := (Below.refl W0.heap.size W0).alloc (Nat.le_refl _) _
  have s2 : (W0.alloc (.cells #[.bool false, .slice none 0 0] 227)).heap.size = W0.heap.size + 1 := by simp
  obtain ⟨W1, hW1⟩ : ∃ W1, W0.alloc (.cells #[.bool false, .slice none 0 0] 227) = W1 := ⟨_, rfl⟩
  rw [hW1] at z2 B2 s2
  have B3 : Below w.heap.size w W1 := B1.trans (B2.mono (by omega))
  have K1 := hide (quoRem w.heap.size W0.heap.size cn cd gn gd kn kd n d (by omega) n1 hd1 W1 (z1.below B2 z1.lt) z2 (hzn.below B3 L1) (hzd.below B3 L2) ((B3.cell (lt_of_cell? hgn)).trans hgn) ((B3.cell L4).trans hgd) (by omega) (by omega) (by omega) (by omega) (by omega) w.heap.size (Nat.le_refl _) (by omega))
  have K2 : Hid (∀ W vq vr, Zi W w.heap.size vq → Qr W1.heap.size W vq vr (n / d) (n % d) → Calls Tryz.prog 197 #[.pointer (some ⟨w.heap.size, 0, none⟩)] W fun e w' => e = .returned (.int .u64 (n / d)) ∧ w' = W) := hide (fun W vq vr hz hQ => uint64_q _ _ W vq vr _ _ hz hQ)
  have K3 : Hid (∀ W vq vr, Zi W W0.heap.size vr → Qr W1.heap.size W vq vr (n / d) (n % d) → Below w.heap.size W1 W → Calls Tryz.prog 188 #[.pointer (some ⟨W0.heap.size, 0, none⟩), .pointer (some ⟨W0.heap.size, 0, none⟩), .int .u64 1] W fun e w' => e = .returned (.pointer (some ⟨W0.heap.size, 0, none⟩)) ∧ Calls Tryz.prog 198 #[.pointer (some ⟨W0.heap.size, 0, none⟩), .pointer (some ⟨cd, 0, none⟩)] w' fun e w'' => e = .returned (.int .i64 (cmp3 (n % d * 2) d)) ∧ Below w.heap.size w w'') := hide (by
    intro W vq vr hz hQ hb
    have B4 : Below w.heap.size w W := B3.trans hb
    refine (lsh_cmp w.heap.size _ W0.heap.size cd gd kd vq vr _ _ d W hz hQ (by omega) (hzd.below B4 L2) ((B4.cell L4).trans hgd) d0 L2 L4 hr).mono ?_
    rintro e w' ⟨rfl, _, hc⟩
    refine ⟨rfl, hc.mono ?_⟩
    rintro e w'' ⟨rfl, hb2⟩
    exact ⟨rfl, B4.trans hb2⟩)
  have HA : Hid (∀ u v : Int, (if 0 < cmp3 (n % d * 2) d ∨ (cmp3 (n % d * 2) d = 0 ∧ n / d % 2 = 1) then (n / d + 1, n / d) else (n / d, n / d + 1)) = (u, v) → u = (arn n d).1 ∧ v = (arn n d).2) := hide (by
    intro u v h
    unfold arn
    rw [h]
    exact ⟨rfl, rfl⟩)
  have hcs := cmp3_cases (n % d * 2) d
  generalize cmp3 (n % d * 2) d = s at *
  generalize hA : arn n d = A at *
  clear hA
  generalize n / d = q at *
  generalize n % d = r at *
  clear z1 z2 B1 B2 B3 hzn hzd hgn hgd s1 s2 L1 L2 L4 hr
  go_enter Tryz.func173, Tryz.ntmps173
  go_wp2_with fail
  refine (unhide K1).mono ?_
  rintro e w2 ⟨rfl, vq, vr, hz1, hz2, hQ, hb⟩
  have K4 := hide ((unhide K2) w2 vq vr hz1 hQ)
  have K5 := hide ((unhide K3) w2 vq vr hz2 hQ hb)
  clear hz1 hz2 hQ hb K1 K2 K3
  go_wp2_with fail
  refine (unhide K4).mono ?_
  rintro e w2 ⟨rfl, rfl⟩
  go_wp2_with fail
  refine (unhide K5).mono ?_
  rintro e w3 ⟨rfl, hc⟩
  replace hc := hide hc
  clear K4 K5
  go_wp2_with fail
  refine (unhide hc).mono ?_
  rintro e w4 ⟨rfl, hb⟩
  replace hb := hide hb
  clear hc
  rcases hcs with rfl | rfl | rfl
  · obtain ⟨a1, a2⟩ := (unhide HA) q (q + 1) (by rw [if_neg (by omega)])
    replace a1 := hide a1
    replace a2 := hide a2
    clear HA
    go_wp2
    go_ret2
    exact ⟨by rw [← unhide a1, ← unhide a2]; rfl, unhide hb⟩
  · by_cases hp : q % 2 = 1
    · obtain ⟨a1, a2⟩ := (unhide HA) (q + 1) q (by rw [if_pos (.inr ⟨rfl, hp⟩)])
      replace a1 := hide a1
      replace a2 := hide a2
      clear HA
      go_wp2
      go_ret2
      exact ⟨by rw [← unhide a1, ← unhide a2]; rfl, unhide hb⟩
    · obtain ⟨a1, a2⟩ := (unhide HA) q (q + 1) (by rw [if_neg (by omega)])
      replace a1 := hide a1
      replace a2 := hide a2
      have hp2 : (q % 2 == 1) = false := by simp; omega
      clear HA
      go_wp2
      go_ret2
      exact ⟨by rw [← unhide a1, ← unhide a2]; rfl, unhide hb⟩
  · obtain ⟨a1, a2⟩ := (unhide HA) (q + 1) q (by rw [if_pos (.inl (by decide))])
    replace a1 := hide a1
    replace a2 := hide a2
    clear HA
    go_wp2
    go_ret2
    exact ⟨by rw [← unhide a1, ← unhide a2]; rfl, unhide hb⟩
end Go.Proofs.YtceflkeaenepcaaGreatDoor
namespace Go.Proofs.YtceflkeaenepcaaGreatDoor
open Go.RowKit
theorem tobits6 (b : Nat) (w : World) : (callFunc 42 #[.float .f64 b]).run Tryz.prog w = .ok (.value (.int .u64 (b : Int))) w := by
  rw [run_callFunc_extern (e := Extern.MathFloatBits.float64bits) Tryz.func42 (by kernel_rfl) (by kernel_rfl) (by kernel_rfl) (by kernel_rfl)]
  rfl
theorem frombits6 (n : Int) (w : World) : (callFunc 185 #[.int .u64 n]).run Tryz.prog w = .ok (.value (.float .f64 n.toNat)) w := by
  rw [run_callFunc_extern (e := Extern.MathFloatBits.float64frombits) Tryz.func185 (by kernel_rfl) (by kernel_rfl) (by kernel_rfl) (by kernel_rfl)]
  rfl
set_option maxRecDepth 20000 in
theorem abs_0 (w : World) : Calls Tryz.prog 167 #[.float .f64 4845873199050653696] w fun e w' => e = .returned (.float .f64 4845873199050653696) ∧ w' = w := by
  have h1 : ∀ w, (callFunc 42 #[.float .f64 4845873199050653696]).run Tryz.prog w = .ok (.value (.int .u64 4845873199050653696)) w := tobits6 4845873199050653696
  have h2 : ∀ w, (callFunc 185 #[.int .u64 4845873199050653696]).run Tryz.prog w = .ok (.value (.float .f64 4845873199050653696)) w := frombits6 4845873199050653696
  have h3 : bits BinOp.andNot IntKind.u64 4845873199050653696 9223372036854775808 = 4845873199050653696 := by decide
  go_enter Tryz.func167, Tryz.ntmps167
  go_wp2
  go_ret
  exact ⟨rfl, rfl⟩
set_option maxRecDepth 20000 in
theorem isInf_0 (w : World) : Calls Tryz.prog 150 #[.float .f64 4845873199050653696, .int .i64 0] w fun e w' => e = .returned (.bool false) ∧ w' = w := by
  have K := hide (abs_0 w)
  have h1 : ∀ w, (binOp .gtr 27 (.float .f64 4845873199050653696) (.float .f64 9218868437227405311)).run Tryz.prog w = .ok (.bool false) w := fun w => by kernel_rfl
  go_enter Tryz.func150, Tryz.ntmps150
  go_wp2_with fail
  refine (unhide K).mono ?_
  rintro e w ⟨rfl, rfl⟩
  go_wp2
  go_ret
  exact ⟨rfl, rfl⟩
set_option maxRecDepth 20000 in
theorem isNaN_0 (w : World) : Calls Tryz.prog 139 #[.float .f64 4845873199050653696] w fun e w' => e = .returned (.bool false) ∧ w' = w := by
  have h1 : ∀ w, (binOp .neq 27 (.float .f64 4845873199050653696) (.float .f64 4845873199050653696)).run Tryz.prog w = .ok (.bool false) w := fun w => by kernel_rfl
  go_enter Tryz.func139, Tryz.ntmps139
  go_wp2
  go_ret
  exact ⟨rfl, rfl⟩
set_option maxRecDepth 20000 in
theorem normalize_0 (w : World) : Calls Tryz.prog 240 #[.float .f64 4845873199050653696] w fun e w' => e = .returned (.tuple #[.float .f64 4845873199050653696, .int .i64 0]) ∧ w' = w := by
  have K := hide (abs_0 w)
  have h1 : ∀ w, (binOp .lss 27 (.float .f64 4845873199050653696) (.float .f64 4503599627370496)).run Tryz.prog w = .ok (.bool false) w := fun w => by kernel_rfl
  go_enter Tryz.func240, Tryz.ntmps240
  go_wp2_with fail
  refine (unhide K).mono ?_
  rintro e w ⟨rfl, rfl⟩
  go_wp2
  go_ret2
  exact ⟨rfl, rfl⟩
set_option maxRecDepth 20000 in
theorem ldexp_0 (w : World) : Calls Tryz.prog 210 #[.float .f64 4845873199050653696, .int .i64 (-55)] w fun e w' => e = .returned (.float .f64 4598175219545276416) ∧ w' = w := by
  have K1 := hide (isInf_0 w)
  have K2 := hide (isNaN_0 w)
  have K3 := hide (normalize_0 w)
  have h1 : ∀ w, (callFunc 42 #[.float .f64 4845873199050653696]).run Tryz.prog w = .ok (.value (.int .u64 4845873199050653696)) w := tobits6 4845873199050653696
  have h2 : ∀ w, (callFunc 185 #[.int .u64 4598175219545276416]).run Tryz.prog w = .ok (.value (.float .f64 4598175219545276416)) w := frombits6 4598175219545276416
  have h3 : ∀ w, (binOp .eql 27 (.float .f64 4845873199050653696) (.float .f64 0)).run Tryz.prog w = .ok (.bool false) w := fun w => by kernel_rfl
  have h4 : bits BinOp.and IntKind.i64 1076 2047 = 1076 := by decide
  have h5 : bits BinOp.andNot IntKind.u64 4845873199050653696 9218868437227405312 = 0 := by decide
  have h6 : bits BinOp.or IntKind.u64 0 4598175219545276416 = 4598175219545276416 := by decide
  have h7 : ∀ w, (binOp .mul 27 (.float .f64 4607182418800017408) (.float .f64 4598175219545276416)).run Tryz.prog w = .ok (.float .f64 4598175219545276416) w := fun w => by kernel_rfl
  go_enter Tryz.func210, Tryz.ntmps210
  go_wp2_with (first | (go_at_call 150; refine (unhide K1).mono ?_; rintro e w ⟨rfl, rfl⟩) | (go_at_call 139; refine (unhide K2).mono ?_; rintro e w ⟨rfl, rfl⟩) | (go_at_call 240; refine (unhide K3).mono ?_; rintro e w ⟨rfl, rfl⟩) | go_in)
  go_ret
  exact ⟨rfl, rfl⟩
theorem toF_0 (w : World) : (convert 63 27 (.int .u64 9007199254740992)).run Tryz.prog w = .ok (.float .f64 4845873199050653696) w := by kernel_rfl
set_option maxRecDepth 20000 in
theorem abs_1 (w : World) : Calls Tryz.prog 167 #[.float .f64 4844071759199705498] w fun e w' => e = .returned (.float .f64 4844071759199705498) ∧ w' = w := by
  have h1 : ∀ w, (callFunc 42 #[.float .f64 4844071759199705498]).run Tryz.prog w = .ok (.value (.int .u64 4844071759199705498)) w := tobits6 4844071759199705498
  have h2 : ∀ w, (callFunc 185 #[.int .u64 4844071759199705498]).run Tryz.prog w = .ok (.value (.float .f64 4844071759199705498)) w := frombits6 4844071759199705498
  have h3 : bits BinOp.andNot IntKind.u64 4844071759199705498 9223372036854775808 = 4844071759199705498 := by decide
  go_enter Tryz.func167, Tryz.ntmps167
  go_wp2
  go_ret
  exact ⟨rfl, rfl⟩
set_option maxRecDepth 20000 in
theorem isInf_1 (w : World) : Calls Tryz.prog 150 #[.float .f64 4844071759199705498, .int .i64 0] w fun e w' => e = .returned (.bool false) ∧ w' = w := by
  have K := hide (abs_1 w)
  have h1 : ∀ w, (binOp .gtr 27 (.float .f64 4844071759199705498) (.float .f64 9218868437227405311)).run Tryz.prog w = .ok (.bool false) w := fun w => by kernel_rfl
  go_enter Tryz.func150, Tryz.ntmps150
  go_wp2_with fail
  refine (unhide K).mono ?_
  rintro e w ⟨rfl, rfl⟩
  go_wp2
  go_ret
  exact ⟨rfl, rfl⟩
set_option maxRecDepth 20000 in
theorem isNaN_1 (w : World) : Calls Tryz.prog 139 #[.float .f64 4844071759199705498] w fun e w' => e = .returned (.bool false) ∧ w' = w := by
  have h1 : ∀ w, (binOp .neq 27 (.float .f64 4844071759199705498) (.float .f64 4844071759199705498)).run Tryz.prog w = .ok (.bool false) w := fun w => by kernel_rfl
  go_enter Tryz.func139, Tryz.ntmps139
  go_wp2
  go_ret
  exact ⟨rfl, rfl⟩
set_option maxRecDepth 20000 in
theorem normalize_1 (w : World) : Calls Tryz.prog 240 #[.float .f64 4844071759199705498] w fun e w' => e = .returned (.tuple #[.float .f64 4844071759199705498, .int .i64 0]) ∧ w' = w := by
  have K := hide (abs_1 w)
  have h1 : ∀ w, (binOp .lss 27 (.float .f64 4844071759199705498) (.float .f64 4503599627370496)).run Tryz.prog w = .ok (.bool false) w := fun w => by kernel_rfl
  go_enter Tryz.func240, Tryz.ntmps240
  go_wp2_with fail
  refine (unhide K).mono ?_
  rintro e w ⟨rfl, rfl⟩
  go_wp2
  go_ret2
  exact ⟨rfl, rfl⟩
set_option maxRecDepth 20000 in
theorem ldexp_1 (w : World) : Calls Tryz.prog 210 #[.float .f64 4844071759199705498, .int .i64 (-55)] w fun e w' => e = .returned (.float .f64 4596373779694328218) ∧ w' = w := by
  have K1 := hide (isInf_1 w)
  have K2 := hide (isNaN_1 w)
  have K3 := hide (normalize_1 w)
  have h1 : ∀ w, (callFunc 42 #[.float .f64 4844071759199705498]).run Tryz.prog w = .ok (.value (.int .u64 4844071759199705498)) w := tobits6 4844071759199705498
  have h2 : ∀ w, (callFunc 185 #[.int .u64 4596373779694328218]).run Tryz.prog w = .ok (.value (.float .f64 4596373779694328218)) w := frombits6 4596373779694328218
  have h3 : ∀ w, (binOp .eql 27 (.float .f64 4844071759199705498) (.float .f64 0)).run Tryz.prog w = .ok (.bool false) w := fun w => by kernel_rfl
  have h4 : bits BinOp.and IntKind.i64 1075 2047 = 1075 := by decide
  have h5 : bits BinOp.andNot IntKind.u64 4844071759199705498 9218868437227405312 = 2702159776422298 := by decide
  have h6 : bits BinOp.or IntKind.u64 2702159776422298 4593671619917905920 = 4596373779694328218 := by decide
  have h7 : ∀ w, (binOp .mul 27 (.float .f64 4607182418800017408) (.float .f64 4596373779694328218)).run Tryz.prog w = .ok (.float .f64 4596373779694328218) w := fun w => by kernel_rfl
  go_enter Tryz.func210, Tryz.ntmps210
  go_wp2_with (first | (go_at_call 150; refine (unhide K1).mono ?_; rintro e w ⟨rfl, rfl⟩) | (go_at_call 139; refine (unhide K2).mono ?_; rintro e w ⟨rfl, rfl⟩) | (go_at_call 240; refine (unhide K3).mono ?_; rintro e w ⟨rfl, rfl⟩) | go_in)
  go_ret
  exact ⟨rfl, rfl⟩
theorem toF_1 (w : World) : (convert 63 27 (.int .u64 7205759403792794)).run Tryz.prog w = .ok (.float .f64 4844071759199705498) w := by kernel_rfl
set_option maxRecDepth 20000 in
theorem abs_2 (w : World) : Calls Tryz.prog 167 #[.float .f64 4842270319348757299] w fun e w' => e = .returned (.float .f64 4842270319348757299) ∧ w' = w := by
  have h1 : ∀ w, (callFunc 42 #[.float .f64 4842270319348757299]).run Tryz.prog w = .ok (.value (.int .u64 4842270319348757299)) w := tobits6 4842270319348757299
  have h2 : ∀ w, (callFunc 185 #[.int .u64 4842270319348757299]).run Tryz.prog w = .ok (.value (.float .f64 4842270319348757299)) w := frombits6 4842270319348757299
  have h3 : bits BinOp.andNot IntKind.u64 4842270319348757299 9223372036854775808 = 4842270319348757299 := by decide
  go_enter Tryz.func167, Tryz.ntmps167
  go_wp2
  go_ret
  exact ⟨rfl, rfl⟩
set_option maxRecDepth 20000 in
theorem isInf_2 (w : World) : Calls Tryz.prog 150 #[.float .f64 4842270319348757299, .int .i64 0] w fun e w' => e = .returned (.bool false) ∧ w' = w := by
  have K := hide (abs_2 w)
  have h1 : ∀ w, (binOp .gtr 27 (.float .f64 4842270319348757299) (.float .f64 9218868437227405311)).run Tryz.prog w = .ok (.bool false) w := fun w => by kernel_rfl
  go_enter Tryz.func150, Tryz.ntmps150
  go_wp2_with fail
  refine (unhide K).mono ?_
  rintro e w ⟨rfl, rfl⟩
  go_wp2
  go_ret
  exact ⟨rfl, rfl⟩
set_option maxRecDepth 20000 in
theorem isNaN_2 (w : World) : Calls Tryz.prog 139 #[.float .f64 4842270319348757299] w fun e w' => e = .returned (.bool false) ∧ w' = w := by
  have h1 : ∀ w, (binOp .neq 27 (.float .f64 4842270319348757299) (.float .f64 4842270319348757299)).run Tryz.prog w = .ok (.bool false) w := fun w => by kernel_rfl
  go_enter Tryz.func139, Tryz.ntmps139
  go_wp2
  go_ret
  exact ⟨rfl, rfl⟩
set_option maxRecDepth 20000 in
theorem normalize_2 (w : World) : Calls Tryz.prog 240 #[.float .f64 4842270319348757299] w fun e w' => e = .returned (.tuple #[.float .f64 4842270319348757299, .int .i64 0]) ∧ w' = w := by
  have K := hide (abs_2 w)
  have h1 : ∀ w, (binOp .lss 27 (.float .f64 4842270319348757299) (.float .f64 4503599627370496)).run Tryz.prog w = .ok (.bool false) w := fun w => by kernel_rfl
  go_enter Tryz.func240, Tryz.ntmps240
  go_wp2_with fail
  refine (unhide K).mono ?_
  rintro e w ⟨rfl, rfl⟩
  go_wp2
  go_ret2
  exact ⟨rfl, rfl⟩
set_option maxRecDepth 20000 in
theorem ldexp_2 (w : World) : Calls Tryz.prog 210 #[.float .f64 4842270319348757299, .int .i64 (-54)] w fun e w' => e = .returned (.float .f64 4599075939470750515) ∧ w' = w := by
  have K1 := hide (isInf_2 w)
  have K2 := hide (isNaN_2 w)
  have K3 := hide (normalize_2 w)
  have h1 : ∀ w, (callFunc 42 #[.float .f64 4842270319348757299]).run Tryz.prog w = .ok (.value (.int .u64 4842270319348757299)) w := tobits6 4842270319348757299
  have h2 : ∀ w, (callFunc 185 #[.int .u64 4599075939470750515]).run Tryz.prog w = .ok (.value (.float .f64 4599075939470750515)) w := frombits6 4599075939470750515
  have h3 : ∀ w, (binOp .eql 27 (.float .f64 4842270319348757299) (.float .f64 0)).run Tryz.prog w = .ok (.bool false) w := fun w => by kernel_rfl
  have h4 : bits BinOp.and IntKind.i64 1075 2047 = 1075 := by decide
  have h5 : bits BinOp.andNot IntKind.u64 4842270319348757299 9218868437227405312 = 900719925474099 := by decide
  have h6 : bits BinOp.or IntKind.u64 900719925474099 4598175219545276416 = 4599075939470750515 := by decide
  have h7 : ∀ w, (binOp .mul 27 (.float .f64 4607182418800017408) (.float .f64 4599075939470750515)).run Tryz.prog w = .ok (.float .f64 4599075939470750515) w := fun w => by kernel_rfl
  go_enter Tryz.func210, Tryz.ntmps210
  go_wp2_with (first | (go_at_call 150; refine (unhide K1).mono ?_; rintro e w ⟨rfl, rfl⟩) | (go_at_call 139; refine (unhide K2).mono ?_; rintro e w ⟨rfl, rfl⟩) | (go_at_call 240; refine (unhide K3).mono ?_; rintro e w ⟨rfl, rfl⟩) | go_in)
  go_ret
  exact ⟨rfl, rfl⟩
theorem toF_2 (w : World) : (convert 63 27 (.int .u64 5404319552844595)).run Tryz.prog w = .ok (.float .f64 4842270319348757299) w := by kernel_rfl
end Go.Proofs.YtceflkeaenepcaaGreatDoor
namespace Go.Proofs.YtceflkeaenepcaaGreatDoor
open Go.RowKit
theorem arn_25_55 : arn 900719925474099200 100 = (9007199254740992, 9007199254740993) := by decide
set_option maxHeartbeats 400000 in
set_option maxRecDepth 20000 in
theorem nearest_25 (cn cd : Nat) (w : World) (hn : Bp w cn 25) (hd : Bp w cd 100) : Calls Tryz.prog 187 #[.pointer (some ⟨cn, 0, none⟩), .pointer (some ⟨cd, 0, none⟩)] w fun e w' => e = .returned (.float .f64 4598175219545276416) ∧ Below w.heap.size w w' := by
  have K1 := hide (bitLen_25 cn w hn)
  have K2 := hide (bitLen_100 cd w hd)
  have KL := hide ldexp_0
  have hcv := toF_0
  have KA55 : Hid (∀ wr, Below w.heap.size w wr → Calls Tryz.prog 169 #[.pointer (some ⟨cn, 0, none⟩), .int .i64 55] wr fun e w1 => ∃ p1, e = .returned (.pointer (some ⟨p1, 0, none⟩)) ∧ Calls Tryz.prog 169 #[.pointer (some ⟨cd, 0, none⟩), .int .i64 (-55)] w1 fun e w2 => ∃ p2, e = .returned (.pointer (some ⟨p2, 0, none⟩)) ∧ Calls Tryz.prog 173 #[.pointer (some ⟨p1, 0, none⟩), .pointer (some ⟨p2, 0, none⟩)] w2 fun e w3 => e = .returned (.tuple #[.int .u64 9007199254740992, .int .u64 9007199254740993]) ∧ Below w.heap.size w w3) := hide (by
    intro wr hb
    refine (doubled_s cn 25 55 36028797018963968 wr (by decide) 55 (by decide) (by decide) (hn.below hb) (by decide)).mono ?_
    rintro e w1 ⟨p1, rfl, bp1, _, b1⟩
    have hb1 : Below w.heap.size w w1 := hb.trans (b1.mono hb.size)
    refine ⟨p1, rfl, (doubled_s cd 100 0 1 w1 (by decide) (-55) (by decide) (by decide) (hd.below hb1) (by decide)).mono ?_⟩
    rintro e w2 ⟨p2, rfl, bp2, _, b2⟩
    have hb2 : Below w.heap.size w w2 := hb1.trans (b2.mono hb1.size)
    refine ⟨p2, rfl, (around_any p1 p2 _ _ w2 (bp1.below b2) bp2 (by decide) (by decide) (by decide)).mono ?_⟩
    rintro e w3 ⟨rfl, b3⟩
    refine ⟨?_, hb2.trans (b3.mono hb2.size)⟩
    rw [show (25 * 36028797018963968 : Int) = 900719925474099200 by decide, show (100 * 1 : Int) = 100 by decide, arn_25_55])
  go_enter Tryz.func187, Tryz.ntmps187
  go_wp2_with fail
  refine (unhide K1).mono ?_
  rintro e w ⟨rfl, rfl⟩
  go_wp2_with fail
  refine (unhide K2).mono ?_
  rintro e w ⟨rfl, rfl⟩
  clear K1 K2 hn hd
  go_wp2
  go_loopw [5] (fun l wr => (l = .int .i64 (-55)) ∧ Below w.heap.size w wr) (fun l _ => (100 + intOf l |> (100 - ·)).toNat)
  case atStart => exact ⟨rfl, Below.refl _ _⟩
  case round =>
    obtain ⟨hl, hb⟩ := hrel
    subst hl
    have KB := hide ((unhide KA55) wr hb)
    clear KA55
    go_wp2_with fail
    refine (unhide KB).mono ?_
    rintro e w1 ⟨p1, rfl, KC⟩
    replace KC := hide KC
    clear KB
    go_wp2_with fail
    refine (unhide KC).mono ?_
    rintro e w2 ⟨p2, rfl, KE⟩
    replace KE := hide KE
    clear KC
    go_wp2_with fail
    refine (unhide KE).mono ?_
    rintro e w3 ⟨rfl, b3⟩
    replace b3 := hide b3
    clear KE
    go_wp2_with fail
    refine ((unhide KL) _).mono ?_
    rintro e w3 ⟨rfl, rfl⟩
    go_wp2
    go_ret
    exact ⟨rfl, unhide b3⟩
theorem arn_2_55 : arn 72057594037927936 10 = (7205759403792794, 7205759403792793) := by decide
set_option maxHeartbeats 400000 in
set_option maxRecDepth 20000 in
theorem nearest_2 (cn cd : Nat) (w : World) (hn : Bp w cn 2) (hd : Bp w cd 10) : Calls Tryz.prog 187 #[.pointer (some ⟨cn, 0, none⟩), .pointer (some ⟨cd, 0, none⟩)] w fun e w' => e = .returned (.float .f64 4596373779694328218) ∧ Below w.heap.size w w' := by
  have K1 := hide (bitLen_2 cn w hn)
  have K2 := hide (bitLen_10 cd w hd)
  have KL := hide ldexp_1
  have hcv := toF_1
  have KA55 : Hid (∀ wr, Below w.heap.size w wr → Calls Tryz.prog 169 #[.pointer (some ⟨cn, 0, none⟩), .int .i64 55] wr fun e w1 => ∃ p1, e = .returned (.pointer (some ⟨p1, 0, none⟩)) ∧ Calls Tryz.prog 169 #[.pointer (some ⟨cd, 0, none⟩), .int .i64 (-55)] w1 fun e w2 => ∃ p2, e = .returned (.pointer (some ⟨p2, 0, none⟩)) ∧ Calls Tryz.prog 173 #[.pointer (some ⟨p1, 0, none⟩), .pointer (some ⟨p2, 0, none⟩)] w2 fun e w3 => e = .returned (.tuple #[.int .u64 7205759403792794, .int .u64 7205759403792793]) ∧ Below w.heap.size w w3) := hide (by
    intro wr hb
    refine (doubled_s cn 2 55 36028797018963968 wr (by decide) 55 (by decide) (by decide) (hn.below hb) (by decide)).mono ?_
    rintro e w1 ⟨p1, rfl, bp1, _, b1⟩
    have hb1 : Below w.heap.size w w1 := hb.trans (b1.mono hb.size)
    refine ⟨p1, rfl, (doubled_s cd 10 0 1 w1 (by decide) (-55) (by decide) (by decide) (hd.below hb1) (by decide)).mono ?_⟩
    rintro e w2 ⟨p2, rfl, bp2, _, b2⟩
    have hb2 : Below w.heap.size w w2 := hb1.trans (b2.mono hb1.size)
    refine ⟨p2, rfl, (around_any p1 p2 _ _ w2 (bp1.below b2) bp2 (by decide) (by decide) (by decide)).mono ?_⟩
    rintro e w3 ⟨rfl, b3⟩
    refine ⟨?_, hb2.trans (b3.mono hb2.size)⟩
    rw [show (2 * 36028797018963968 : Int) = 72057594037927936 by decide, show (10 * 1 : Int) = 10 by decide, arn_2_55])
  go_enter Tryz.func187, Tryz.ntmps187
  go_wp2_with fail
  refine (unhide K1).mono ?_
  rintro e w ⟨rfl, rfl⟩
  go_wp2_with fail
  refine (unhide K2).mono ?_
  rintro e w ⟨rfl, rfl⟩
  clear K1 K2 hn hd
  go_wp2
  go_loopw [5] (fun l wr => (l = .int .i64 (-55)) ∧ Below w.heap.size w wr) (fun l _ => (100 + intOf l |> (100 - ·)).toNat)
  case atStart => exact ⟨rfl, Below.refl _ _⟩
  case round =>
    obtain ⟨hl, hb⟩ := hrel
    subst hl
    have KB := hide ((unhide KA55) wr hb)
    clear KA55
    go_wp2_with fail
    refine (unhide KB).mono ?_
    rintro e w1 ⟨p1, rfl, KC⟩
    replace KC := hide KC
    clear KB
    go_wp2_with fail
    refine (unhide KC).mono ?_
    rintro e w2 ⟨p2, rfl, KE⟩
    replace KE := hide KE
    clear KC
    go_wp2_with fail
    refine (unhide KE).mono ?_
    rintro e w3 ⟨rfl, b3⟩
    replace b3 := hide b3
    clear KE
    go_wp2_with fail
    refine ((unhide KL) _).mono ?_
    rintro e w3 ⟨rfl, rfl⟩
    go_wp2
    go_ret
    exact ⟨rfl, unhide b3⟩
theorem arn_3_55 : arn 108086391056891904 10 = (10808639105689190, 10808639105689191) := by decide
theorem arn_3_54 : arn 54043195528445952 10 = (5404319552844595, 5404319552844596) := by decide
set_option maxHeartbeats 400000 in
set_option maxRecDepth 20000 in
theorem nearest_3 (cn cd : Nat) (w : World) (hn : Bp w cn 3) (hd : Bp w cd 10) : Calls Tryz.prog 187 #[.pointer (some ⟨cn, 0, none⟩), .pointer (some ⟨cd, 0, none⟩)] w fun e w' => e = .returned (.float .f64 4599075939470750515) ∧ Below w.heap.size w w' := by
  have K1 := hide (bitLen_3 cn w hn)
  have K2 := hide (bitLen_10 cd w hd)
  have KL := hide ldexp_2
  have hcv := toF_2
  have KA55 : Hid (∀ wr, Below w.heap.size w wr → Calls Tryz.prog 169 #[.pointer (some ⟨cn, 0, none⟩), .int .i64 55] wr fun e w1 => ∃ p1, e = .returned (.pointer (some ⟨p1, 0, none⟩)) ∧ Calls Tryz.prog 169 #[.pointer (some ⟨cd, 0, none⟩), .int .i64 (-55)] w1 fun e w2 => ∃ p2, e = .returned (.pointer (some ⟨p2, 0, none⟩)) ∧ Calls Tryz.prog 173 #[.pointer (some ⟨p1, 0, none⟩), .pointer (some ⟨p2, 0, none⟩)] w2 fun e w3 => e = .returned (.tuple #[.int .u64 10808639105689190, .int .u64 10808639105689191]) ∧ Below w.heap.size w w3) := hide (by
    intro wr hb
    refine (doubled_s cn 3 55 36028797018963968 wr (by decide) 55 (by decide) (by decide) (hn.below hb) (by decide)).mono ?_
    rintro e w1 ⟨p1, rfl, bp1, _, b1⟩
    have hb1 : Below w.heap.size w w1 := hb.trans (b1.mono hb.size)
    refine ⟨p1, rfl, (doubled_s cd 10 0 1 w1 (by decide) (-55) (by decide) (by decide) (hd.below hb1) (by decide)).mono ?_⟩
    rintro e w2 ⟨p2, rfl, bp2, _, b2⟩
    have hb2 : Below w.heap.size w w2 := hb1.trans (b2.mono hb1.size)
    refine ⟨p2, rfl, (around_any p1 p2 _ _ w2 (bp1.below b2) bp2 (by decide) (by decide) (by decide)).mono ?_⟩
    rintro e w3 ⟨rfl, b3⟩
    refine ⟨?_, hb2.trans (b3.mono hb2.size)⟩
    rw [show (3 * 36028797018963968 : Int) = 108086391056891904 by decide, show (10 * 1 : Int) = 10 by decide, arn_3_55])
  have KA54 : Hid (∀ wr, Below w.heap.size w wr → Calls Tryz.prog 169 #[.pointer (some ⟨cn, 0, none⟩), .int .i64 54] wr fun e w1 => ∃ p1, e = .returned (.pointer (some ⟨p1, 0, none⟩)) ∧ Calls Tryz.prog 169 #[.pointer (some ⟨cd, 0, none⟩), .int .i64 (-54)] w1 fun e w2 => ∃ p2, e = .returned (.pointer (some ⟨p2, 0, none⟩)) ∧ Calls Tryz.prog 173 #[.pointer (some ⟨p1, 0, none⟩), .pointer (some ⟨p2, 0, none⟩)] w2 fun e w3 => e = .returned (.tuple #[.int .u64 5404319552844595, .int .u64 5404319552844596]) ∧ Below w.heap.size w w3) := hide (by
    intro wr hb
    refine (doubled_s cn 3 54 18014398509481984 wr (by decide) 54 (by decide) (by decide) (hn.below hb) (by decide)).mono ?_
    rintro e w1 ⟨p1, rfl, bp1, _, b1⟩
    have hb1 : Below w.heap.size w w1 := hb.trans (b1.mono hb.size)
    refine ⟨p1, rfl, (doubled_s cd 10 0 1 w1 (by decide) (-54) (by decide) (by decide) (hd.below hb1) (by decide)).mono ?_⟩
    rintro e w2 ⟨p2, rfl, bp2, _, b2⟩
    have hb2 : Below w.heap.size w w2 := hb1.trans (b2.mono hb1.size)
    refine ⟨p2, rfl, (around_any p1 p2 _ _ w2 (bp1.below b2) bp2 (by decide) (by decide) (by decide)).mono ?_⟩
    rintro e w3 ⟨rfl, b3⟩
    refine ⟨?_, hb2.trans (b3.mono hb2.size)⟩
    rw [show (3 * 18014398509481984 : Int) = 54043195528445952 by decide, show (10 * 1 : Int) = 10 by decide, arn_3_54])
  go_enter Tryz.func187, Tryz.ntmps187
  go_wp2_with fail
  refine (unhide K1).mono ?_
  rintro e w ⟨rfl, rfl⟩
  go_wp2_with fail
  refine (unhide K2).mono ?_
  rintro e w ⟨rfl, rfl⟩
  clear K1 K2 hn hd
  go_wp2
  go_loopw [5] (fun l wr => (l = .int .i64 (-55) ∨ l = .int .i64 (-54)) ∧ Below w.heap.size w wr) (fun l _ => (100 + intOf l |> (100 - ·)).toNat)
  case atStart => exact ⟨.inl rfl, Below.refl _ _⟩
  case round =>
    obtain ⟨hl, hb⟩ := hrel
    rcases hl with rfl | rfl
    · have KB := hide ((unhide KA55) wr hb)
      clear KA55 KA54
      go_wp2_with fail
      refine (unhide KB).mono ?_
      rintro e w1 ⟨p1, rfl, KC⟩
      replace KC := hide KC
      clear KB
      go_wp2_with fail
      refine (unhide KC).mono ?_
      rintro e w2 ⟨p2, rfl, KE⟩
      replace KE := hide KE
      clear KC
      go_wp2_with fail
      refine (unhide KE).mono ?_
      rintro e w3 ⟨rfl, b3⟩
      replace b3 := hide b3
      clear KE
      go_wp2
      go_roundw
      case rel => exact ⟨.inr (by first | rfl | go_num), unhide b3⟩
      case measure => simp [intOf]
    · have KB := hide ((unhide KA54) wr hb)
      clear KA55 KA54
      go_wp2_with fail
      refine (unhide KB).mono ?_
      rintro e w1 ⟨p1, rfl, KC⟩
      replace KC := hide KC
      clear KB
      go_wp2_with fail
      refine (unhide KC).mono ?_
      rintro e w2 ⟨p2, rfl, KE⟩
      replace KE := hide KE
      clear KC
      go_wp2_with fail
      refine (unhide KE).mono ?_
      rintro e w3 ⟨rfl, b3⟩
      replace b3 := hide b3
      clear KE
      go_wp2_with fail
      refine ((unhide KL) _).mono ?_
      rintro e w3 ⟨rfl, rfl⟩
      go_wp2
      go_ret
      exact ⟨rfl, unhide b3⟩
end Go.Proofs.YtceflkeaenepcaaGreatDoor
namespace Go.Proofs.YtceflkeaenepcaaGreatDoor
open Go.RowKit
theorem setU_b (n : Int) (h0 : 0 < n) (h1 : n < 18446744073709551616) (b B : Nat) (W : World) (hz : Zi W b (.slice none 0 0)) (hB : B ≤ b) :
    Calls Tryz.prog 170 #[.pointer (some ⟨b, 0, none⟩), .int .u64 n] W fun e w' => e = .returned (.pointer (some ⟨b, 0, none⟩)) ∧ Bp w' b n ∧ Below B W w' := by
  refine (setUint b n h0 W hz).mono ?_
  rintro e w' ⟨rfl, rfl⟩
  obtain ⟨p1, p2⟩ := new_bp (k := 0) (rest := #[]) (cap := 1) hz (W := W.alloc (.cells #[.int .u64 n] 246)) (by simp; rfl) h0 h1 (by omega) (by omega) B hB
  exact ⟨rfl, p1, p2⟩
theorem newInt_b (n : Int) (h0 : 0 < n) (h1 : n ≤ 1000) (w : World) : Calls Tryz.prog 171 #[.int .i64 n] w (NewB w n) := by
  refine (newInt_p n h0 h1 w).mono ?_
  rintro e w' ⟨rfl, hz, hc, hb⟩
  exact ⟨_, rfl, ⟨h0, by omega, _, _, hz, hc, by omega, by omega⟩, by omega, hb⟩
set_option maxRecDepth 20000 in
theorem decimal_25 (w : World) : Calls Tryz.prog 166 #[.int .u64 25, .int .i64 (-2)] w fun e w' => e = .returned (.float .f64 4598175219545276416) ∧ Below w.heap.size w w' := by
  have z1 : Zi (w.alloc (.cells #[.bool false, .slice none 0 0] 227)) w.heap.size (.slice none 0 0) := Zi.alloc w _
  have B1 : Below w.heap.size w (w.alloc (.cells #[.bool false, .slice none 0 0] 227)) := (Below.refl w.heap.size w).alloc (Nat.le_refl _) _
  obtain ⟨W0, hW0⟩ : ∃ W0, w.alloc (.cells #[.bool false, .slice none 0 0] 227) = W0 := ⟨_, rfl⟩
  rw [hW0] at z1 B1
  have K : Hid (Calls Tryz.prog 170 #[.pointer (some ⟨w.heap.size, 0, none⟩), .int .u64 25] W0 fun e w1 => ∃ p1, e = .returned (.pointer (some ⟨p1, 0, none⟩)) ∧ Calls Tryz.prog 174 #[.pointer (some ⟨p1, 0, none⟩), .int .i64 (-2)] w1 fun e w2 => ∃ p2, e = .returned (.pointer (some ⟨p2, 0, none⟩)) ∧ Calls Tryz.prog 171 #[.int .i64 1] w2 fun e w3 => ∃ p3, e = .returned (.pointer (some ⟨p3, 0, none⟩)) ∧ Calls Tryz.prog 174 #[.pointer (some ⟨p3, 0, none⟩), .int .i64 2] w3 fun e w4 => ∃ p4, e = .returned (.pointer (some ⟨p4, 0, none⟩)) ∧ Calls Tryz.prog 187 #[.pointer (some ⟨p2, 0, none⟩), .pointer (some ⟨p4, 0, none⟩)] w4 fun e w5 => e = .returned (.float .f64 4598175219545276416) ∧ Below w.heap.size w w5) := hide (by
    refine (setU_b 25 (by decide) (by decide) w.heap.size w.heap.size W0 z1 (Nat.le_refl _)).mono ?_
    rintro e w1 ⟨rfl, bp1, b1⟩
    have hb1 := B1.trans b1
    refine ⟨_, rfl, (tenfold_t _ 25 1 (-2) w1 (by decide) (by unfold MulOk; decide) bp1).mono ?_⟩
    rintro e w2 ⟨p2, rfl, bp2, _, b2⟩
    have hb2 := hb1.trans (b2.mono hb1.size)
    refine ⟨_, rfl, (newInt_b 1 (by decide) (by decide) w2).mono ?_⟩
    rintro e w3 ⟨p3, rfl, bp3, _, b3⟩
    have hb3 := hb2.trans (b3.mono hb2.size)
    refine ⟨_, rfl, (tenfold_t _ 1 100 2 w3 (by decide) (by unfold MulOk; decide) bp3).mono ?_⟩
    rintro e w4 ⟨p4, rfl, bp4, _, b4⟩
    have hb4 := hb3.trans (b4.mono hb3.size)
    refine ⟨_, rfl, (nearest_25 p2 p4 w4 ((bp2.below b3).below b4) bp4).mono ?_⟩
    rintro e w5 ⟨rfl, b5⟩
    exact ⟨rfl, hb4.trans (b5.mono hb4.size)⟩)
  clear z1 B1
  go_enter Tryz.func166, Tryz.ntmps166
  go_wp2_with fail
  refine (unhide K).mono ?_
  rintro e w1 ⟨p1, rfl, K1⟩
  replace K1 := hide K1
  clear K
  go_wp2_with fail
  refine (unhide K1).mono ?_
  rintro e w2 ⟨p2, rfl, K2⟩
  replace K2 := hide K2
  clear K1
  go_wp2_with fail
  refine (unhide K2).mono ?_
  rintro e w3 ⟨p3, rfl, K3⟩
  replace K3 := hide K3
  clear K2
  go_wp2_with fail
  refine (unhide K3).mono ?_
  rintro e w4 ⟨p4, rfl, K4⟩
  replace K4 := hide K4
  clear K3
  go_wp2_with fail
  refine (unhide K4).mono ?_
  rintro e w5 ⟨rfl, hb⟩
  replace hb := hide hb
  go_wp2
  go_ret
  exact ⟨rfl, unhide hb⟩
set_option maxRecDepth 20000 in
theorem decimal_2 (w : World) : Calls Tryz.prog 166 #[.int .u64 2, .int .i64 (-1)] w fun e w' => e = .returned (.float .f64 4596373779694328218) ∧ Below w.heap.size w w' := by
  have z1 : Zi (w.alloc (.cells #[.bool false, .slice none 0 0] 227)) w.heap.size (.slice none 0 0) := Zi.alloc w _
  have B1 : Below w.heap.size w (w.alloc (.cells #[.bool false, .slice none 0 0] 227)) := (Below.refl w.heap.size w).alloc (Nat.le_refl _) _
  obtain ⟨W0, hW0⟩ : ∃ W0, w.alloc (.cells #[.bool false, .slice none 0 0] 227) = W0 := ⟨_, rfl⟩
  rw [hW0] at z1 B1
  have K : Hid (Calls Tryz.prog 170 #[.pointer (some ⟨w.heap.size, 0, none⟩), .int .u64 2] W0 fun e w1 => ∃ p1, e = .returned (.pointer (some ⟨p1, 0, none⟩)) ∧ Calls Tryz.prog 174 #[.pointer (some ⟨p1, 0, none⟩), .int .i64 (-1)] w1 fun e w2 => ∃ p2, e = .returned (.pointer (some ⟨p2, 0, none⟩)) ∧ Calls Tryz.prog 171 #[.int .i64 1] w2 fun e w3 => ∃ p3, e = .returned (.pointer (some ⟨p3, 0, none⟩)) ∧ Calls Tryz.prog 174 #[.pointer (some ⟨p3, 0, none⟩), .int .i64 1] w3 fun e w4 => ∃ p4, e = .returned (.pointer (some ⟨p4, 0, none⟩)) ∧ Calls Tryz.prog 187 #[.pointer (some ⟨p2, 0, none⟩), .pointer (some ⟨p4, 0, none⟩)] w4 fun e w5 => e = .returned (.float .f64 4596373779694328218) ∧ Below w.heap.size w w5) := hide (by
    refine (setU_b 2 (by decide) (by decide) w.heap.size w.heap.size W0 z1 (Nat.le_refl _)).mono ?_
    rintro e w1 ⟨rfl, bp1, b1⟩
    have hb1 := B1.trans b1
    refine ⟨_, rfl, (tenfold_t _ 2 1 (-1) w1 (by decide) (by unfold MulOk; decide) bp1).mono ?_⟩
    rintro e w2 ⟨p2, rfl, bp2, _, b2⟩
    have hb2 := hb1.trans (b2.mono hb1.size)
    refine ⟨_, rfl, (newInt_b 1 (by decide) (by decide) w2).mono ?_⟩
    rintro e w3 ⟨p3, rfl, bp3, _, b3⟩
    have hb3 := hb2.trans (b3.mono hb2.size)
    refine ⟨_, rfl, (tenfold_t _ 1 10 1 w3 (by decide) (by unfold MulOk; decide) bp3).mono ?_⟩
    rintro e w4 ⟨p4, rfl, bp4, _, b4⟩
    have hb4 := hb3.trans (b4.mono hb3.size)
    refine ⟨_, rfl, (nearest_2 p2 p4 w4 ((bp2.below b3).below b4) bp4).mono ?_⟩
    rintro e w5 ⟨rfl, b5⟩
    exact ⟨rfl, hb4.trans (b5.mono hb4.size)⟩)
  clear z1 B1
  go_enter Tryz.func166, Tryz.ntmps166
  go_wp2_with fail
  refine (unhide K).mono ?_
  rintro e w1 ⟨p1, rfl, K1⟩
  replace K1 := hide K1
  clear K
  go_wp2_with fail
  refine (unhide K1).mono ?_
  rintro e w2 ⟨p2, rfl, K2⟩
  replace K2 := hide K2
  clear K1
  go_wp2_with fail
  refine (unhide K2).mono ?_
  rintro e w3 ⟨p3, rfl, K3⟩
  replace K3 := hide K3
  clear K2
  go_wp2_with fail
  refine (unhide K3).mono ?_
  rintro e w4 ⟨p4, rfl, K4⟩
  replace K4 := hide K4
  clear K3
  go_wp2_with fail
  refine (unhide K4).mono ?_
  rintro e w5 ⟨rfl, hb⟩
  replace hb := hide hb
  go_wp2
  go_ret
  exact ⟨rfl, unhide hb⟩
set_option maxRecDepth 20000 in
theorem decimal_3 (w : World) : Calls Tryz.prog 166 #[.int .u64 3, .int .i64 (-1)] w fun e w' => e = .returned (.float .f64 4599075939470750515) ∧ Below w.heap.size w w' := by
  have z1 : Zi (w.alloc (.cells #[.bool false, .slice none 0 0] 227)) w.heap.size (.slice none 0 0) := Zi.alloc w _
  have B1 : Below w.heap.size w (w.alloc (.cells #[.bool false, .slice none 0 0] 227)) := (Below.refl w.heap.size w).alloc (Nat.le_refl _) _
  obtain ⟨W0, hW0⟩ : ∃ W0, w.alloc (.cells #[.bool false, .slice none 0 0] 227) = W0 := ⟨_, rfl⟩
  rw [hW0] at z1 B1
  have K : Hid (Calls Tryz.prog 170 #[.pointer (some ⟨w.heap.size, 0, none⟩), .int .u64 3] W0 fun e w1 => ∃ p1, e = .returned (.pointer (some ⟨p1, 0, none⟩)) ∧ Calls Tryz.prog 174 #[.pointer (some ⟨p1, 0, none⟩), .int .i64 (-1)] w1 fun e w2 => ∃ p2, e = .returned (.pointer (some ⟨p2, 0, none⟩)) ∧ Calls Tryz.prog 171 #[.int .i64 1] w2 fun e w3 => ∃ p3, e = .returned (.pointer (some ⟨p3, 0, none⟩)) ∧ Calls Tryz.prog 174 #[.pointer (some ⟨p3, 0, none⟩), .int .i64 1] w3 fun e w4 => ∃ p4, e = .returned (.pointer (some ⟨p4, 0, none⟩)) ∧ Calls Tryz.prog 187 #[.pointer (some ⟨p2, 0, none⟩), .pointer (some ⟨p4, 0, none⟩)] w4 fun e w5 => e = .returned (.float .f64 4599075939470750515) ∧ Below w.heap.size w w5) := hide (by
    refine (setU_b 3 (by decide) (by decide) w.heap.size w.heap.size W0 z1 (Nat.le_refl _)).mono ?_
    rintro e w1 ⟨rfl, bp1, b1⟩
    have hb1 := B1.trans b1
    refine ⟨_, rfl, (tenfold_t _ 3 1 (-1) w1 (by decide) (by unfold MulOk; decide) bp1).mono ?_⟩
    rintro e w2 ⟨p2, rfl, bp2, _, b2⟩
    have hb2 := hb1.trans (b2.mono hb1.size)
    refine ⟨_, rfl, (newInt_b 1 (by decide) (by decide) w2).mono ?_⟩
    rintro e w3 ⟨p3, rfl, bp3, _, b3⟩
    have hb3 := hb2.trans (b3.mono hb2.size)
    refine ⟨_, rfl, (tenfold_t _ 1 10 1 w3 (by decide) (by unfold MulOk; decide) bp3).mono ?_⟩
    rintro e w4 ⟨p4, rfl, bp4, _, b4⟩
    have hb4 := hb3.trans (b4.mono hb3.size)
    refine ⟨_, rfl, (nearest_3 p2 p4 w4 ((bp2.below b3).below b4) bp4).mono ?_⟩
    rintro e w5 ⟨rfl, b5⟩
    exact ⟨rfl, hb4.trans (b5.mono hb4.size)⟩)
  clear z1 B1
  go_enter Tryz.func166, Tryz.ntmps166
  go_wp2_with fail
  refine (unhide K).mono ?_
  rintro e w1 ⟨p1, rfl, K1⟩
  replace K1 := hide K1
  clear K
  go_wp2_with fail
  refine (unhide K1).mono ?_
  rintro e w2 ⟨p2, rfl, K2⟩
  replace K2 := hide K2
  clear K1
  go_wp2_with fail
  refine (unhide K2).mono ?_
  rintro e w3 ⟨p3, rfl, K3⟩
  replace K3 := hide K3
  clear K2
  go_wp2_with fail
  refine (unhide K3).mono ?_
  rintro e w4 ⟨p4, rfl, K4⟩
  replace K4 := hide K4
  clear K3
  go_wp2_with fail
  refine (unhide K4).mono ?_
  rintro e w5 ⟨rfl, hb⟩
  replace hb := hide hb
  go_wp2
  go_ret
  exact ⟨rfl, unhide hb⟩
end Go.Proofs.YtceflkeaenepcaaGreatDoor
namespace Go.Proofs.YtceflkeaenepcaaGreatDoor
open Go.RowKit
theorem arnA : arn 4503599627370496 18014398509481984 = (0, 1) := by decide
theorem arnB : arn 45035996273704960 18014398509481984 = (2, 3) := by decide
theorem arnC : arn 450359962737049600 18014398509481984 = (25, 26) := by decide
set_option maxRecDepth 20000 in
theorem apiBits6 (w : World) : Calls Tryz.prog 29 #[.float .f64 4598175219545276416] w fun e w' => e = .returned (.int .u64 4598175219545276416) ∧ w' = w := by
  have h1 : ∀ w, (callFunc 42 #[.float .f64 4598175219545276416]).run Tryz.prog w = .ok (.value (.int .u64 4598175219545276416)) w := tobits6 4598175219545276416
  go_enter Tryz.func29, Tryz.ntmps29
  go_wp2
  go_ret
  exact ⟨rfl, rfl⟩
set_option maxRecDepth 20000 in
theorem parts6 (w : World) : Calls Tryz.prog 168 #[.float .f64 4598175219545276416] w fun e w' => e = .returned (.tuple #[.int .u64 4503599627370496, .int .i64 (-54)]) ∧ w' = w := by
  have K := hide (apiBits6 w)
  have e1 : bits BinOp.and IntKind.u64 4598175219545276416 4503599627370495 = 0 := by decide
  have e2 : bits BinOp.and IntKind.u64 1021 2047 = 1021 := by decide
  have e3 : bits BinOp.or IntKind.u64 0 4503599627370496 = 4503599627370496 := by decide
  go_enter Tryz.func168, Tryz.ntmps168
  go_wp2_with fail
  refine (unhide K).mono ?_
  rintro e w ⟨rfl, rfl⟩
  go_wp2
  go_ret2
  exact ⟨rfl, rfl⟩
set_option maxRecDepth 20000 in
theorem firstPower6 (w : World) : Calls Tryz.prog 172 #[.int .i64 (-1)] w fun e w' => e = .returned (.int .i64 0) ∧ w' = w := by
  go_enter Tryz.func172, Tryz.ntmps172
  go_wp2
  go_ret
  exact ⟨rfl, rfl⟩
set_option maxRecDepth 20000 in
theorem noNoughts6 (w : World) : Calls Tryz.prog 175 #[.int .u64 25, .int .i64 (-2)] w fun e w' => e = .returned (.tuple #[.int .u64 25, .int .i64 (-2)]) ∧ w' = w := by
  go_enter Tryz.func175, Tryz.ntmps175
  go_wp2
  go_loop [0, 1] (fun d p => d = .int .u64 25 ∧ p = .int .i64 (-2)) (fun _ _ => 0)
  case atStart => exact ⟨rfl, rfl⟩
  case round =>
    obtain ⟨rfl, rfl⟩ := hrel
    go_wp2
    go_ret2
    exact ⟨rfl, rfl⟩
def Ask6 (w : World) (p1 p2 : Nat) (p : Int) (a b : Int) : Prop := ∀ wr, Below w.heap.size w wr → Calls Tryz.prog 174 #[.pointer (some ⟨p1, 0, none⟩), .int .i64 (-p)] wr fun e w1 => ∃ q1, e = .returned (.pointer (some ⟨q1, 0, none⟩)) ∧ Calls Tryz.prog 174 #[.pointer (some ⟨p2, 0, none⟩), .int .i64 p] w1 fun e w2 => ∃ q2, e = .returned (.pointer (some ⟨q2, 0, none⟩)) ∧ Calls Tryz.prog 173 #[.pointer (some ⟨q1, 0, none⟩), .pointer (some ⟨q2, 0, none⟩)] w2 fun e w3 => e = .returned (.tuple #[.int .u64 a, .int .u64 b]) ∧ Below w.heap.size w w3
theorem ask6 (w : World) (p1 p2 : Nat) (p m a b : Int) (h1 : Bp w p1 4503599627370496) (h2 : Bp w p2 18014398509481984) (hm : (m = 1 ∧ -p ≤ 0 ∧ -1000 ≤ -p) ∨ (m = 10 ∧ -p = 1) ∨ (m = 100 ∧ -p = 2)) (hp : p ≤ 0 ∧ -1000 ≤ p) (k1 : MulOk m 4503599627370496) (hA : arn (m * 4503599627370496) 18014398509481984 = (a, b)) (hr : m * 4503599627370496 % 18014398509481984 * 2 < 18446744073709551616) (hq : m * 4503599627370496 / 18014398509481984 + 1 < 18446744073709551616) : Ask6 w p1 p2 p a b := by
  intro wr hb
  refine (tenfold_t p1 4503599627370496 m (-p) wr hm k1 (h1.below hb)).mono ?_
  rintro e w1 ⟨q1, rfl, bp1, _, b1⟩
  have hb1 : Below w.heap.size w w1 := hb.trans (b1.mono hb.size)
  refine ⟨q1, rfl, (tenfold_t p2 18014398509481984 1 p w1 (.inl ⟨rfl, hp⟩) (by unfold MulOk; decide) (h2.below hb1)).mono ?_⟩
  rintro e w2 ⟨q2, rfl, bp2, _, b2⟩
  have hb2 : Below w.heap.size w w2 := hb1.trans (b2.mono hb1.size)
  rw [Int.one_mul] at bp2
  refine ⟨q2, rfl, (around_any q1 q2 _ _ w2 (bp1.below b2) bp2 (by decide) hr hq).mono ?_⟩
  rintro e w3 ⟨rfl, b3⟩
  refine ⟨?_, hb2.trans (b3.mono hb2.size)⟩
  rw [hA]
def Num6 (w : World) : Prop := ∀ z, Zi z w.heap.size (.slice none 0 0) → Below w.heap.size w z → Calls Tryz.prog 170 #[.pointer (some ⟨w.heap.size, 0, none⟩), .int .u64 4503599627370496] z fun e w1 => ∃ p0, e = .returned (.pointer (some ⟨p0, 0, none⟩)) ∧ Calls Tryz.prog 169 #[.pointer (some ⟨p0, 0, none⟩), .int .i64 (-54)] w1 fun e w2 => ∃ p1, e = .returned (.pointer (some ⟨p1, 0, none⟩)) ∧ Calls Tryz.prog 171 #[.int .i64 1] w2 fun e w3 => ∃ p3, e = .returned (.pointer (some ⟨p3, 0, none⟩)) ∧ Calls Tryz.prog 169 #[.pointer (some ⟨p3, 0, none⟩), .int .i64 54] w3 fun e w4 => ∃ p2, e = .returned (.pointer (some ⟨p2, 0, none⟩)) ∧ Below w.heap.size w w4 ∧ Ask6 w4 p1 p2 0 0 1 ∧ Ask6 w4 p1 p2 (-1) 2 3 ∧ Ask6 w4 p1 p2 (-2) 25 26
theorem num6 (w : World) : Num6 w := by
  intro z hz hb
  refine (setU_b 4503599627370496 (by decide) (by decide) w.heap.size w.heap.size z hz (Nat.le_refl _)).mono ?_
  rintro e w1 ⟨rfl, bp1, b1⟩
  have hb1 := hb.trans b1
  refine ⟨_, rfl, (doubled_s _ 4503599627370496 0 1 w1 (by decide) (-54) (by decide) (by decide) bp1 (by decide)).mono ?_⟩
  rintro e w2 ⟨p1, rfl, bp2, _, b2⟩
  have hb2 := hb1.trans (b2.mono hb1.size)
  refine ⟨_, rfl, (newInt_b 1 (by decide) (by decide) w2).mono ?_⟩
  rintro e w3 ⟨p3, rfl, bp3, _, b3⟩
  have hb3 := hb2.trans (b3.mono hb2.size)
  refine ⟨_, rfl, (doubled_s _ 1 54 18014398509481984 w3 (by decide) 54 (by decide) (by decide) bp3 (by decide)).mono ?_⟩
  rintro e w4 ⟨p2, rfl, bp4, _, b4⟩
  rw [Int.mul_one] at bp2
  rw [Int.one_mul] at bp4
  have q1 := (bp2.below b3).below b4
  exact ⟨p2, rfl, hb3.trans (b4.mono hb3.size), ask6 w4 p1 p2 0 1 0 1 q1 bp4 (by decide) (by decide) (by unfold MulOk; decide) (by decide) (by decide) (by decide), ask6 w4 p1 p2 (-1) 10 2 3 q1 bp4 (by decide) (by decide) (by unfold MulOk; decide) (by decide) (by decide) (by decide), ask6 w4 p1 p2 (-2) 100 25 26 q1 bp4 (by decide) (by decide) (by unfold MulOk; decide) (by decide) (by decide) (by decide)⟩
end Go.Proofs.YtceflkeaenepcaaGreatDoor
