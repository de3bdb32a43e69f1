/- The walk of CanonOpens, out of what canon's calls are asked. -/
import Derived.Test.YteigibncdbgpmaaGreatDoorLFulls7
import Derived.Deep.RegionHeld3
import Derived.Deep.DeepCutAuto
import Derived.Deep.CutBlock
namespace Go.Proofs.YteigibncdbgpmaaGreatDoor
open Go.RowKit

theorem opn_len {w : World} {v : Value} {rs : List Rec} (hv : Rcs w v rs) (c : Int) : (Cn.opn rs c).length ≤ 1000000000 := by
  unfold Cn.opn
  split
  · split <;> simp
  · rcases hit_at hv 3 c with ⟨_, h⟩ | ⟨k, b, off, cap, _, hk, h, _, _, _, _, hf⟩
    · rw [h]; simp
    · rw [h]; exact hf.len
set_option maxRecDepth 20000 in
set_option maxHeartbeats 4000000 in
theorem opens_any (HC : ClassC) (HO : OpenC) (HP : PrimC) (HF : FullC) (HK : CheckC) (v u : Value) (rs : List Rec) (cs : List Int) (w : World) (hg : Glob w) (hv : Rcs w v rs) (hu : Sk .i32 w u cs) (hcl : cs.length ≤ 1000000000) : Calls Tryz.prog 3 #[v, u] w (Tells w true) := by
  have KT := hide (told_any HC HO HP HF HK)
  have HG : Hid (∀ W, Below w.heap.size w W → Glob W) := fun W h => hg.on h
  clear hg
  have K1 := hide (few_any v rs 120 w hv (by omega))
  have KO := hide HO
  have KP := hide HP
  have KL := hide HC
  clear HC HO HP HF HK
  obtain ⟨ao, cap, rfl, h1, h2⟩ := hv.shape
  have hlen := hv.1
  have HR := hide (fun i hi => rune_of hu (i := i) hi)
  have HCS : Hid (∀ i, i < cs.length → ∀ W, Below w.heap.size w W → ∃ b off, (∃ c, u = .slice (some ⟨b, off, none⟩) cs.length c) ∧ W.cell? ⟨b, off + i, none⟩ = some (.int .i32 (cs.getD i 0))) := by
    intro i hi W hb
    obtain ⟨b, off, c, rfl, _, _, hc⟩ := hu.place (by omega)
    have h := hc i hi
    exact ⟨b, off, ⟨c, rfl⟩, by rw [hb.cell (lt_of_cell? h)]; exact h⟩
  obtain ⟨uo, ucap, rfl, u1, u2⟩ := hu.shape
  clear hu
  go_enter Tryz.func3, Tryz.ntmps3
  go_wp2_with fail
  refine (unhide K1).mono ?_
  rintro e1 w1 ⟨v1, ps, rfl, a1, a2, hb1⟩
  obtain ⟨m, m1, m3, rv, rl, ao1, cap1, rfl, mc⟩ := few_both hv rfl a1 a2 hb1
  have HI0 : Hid (FIn w ao ao1 m cap cap1 (rs.take 120) w1) := ⟨rv, rl, hb1⟩
  clear K1 a1 a2 hv rv rl hb1
  generalize rs.take 120 = xs at *
  go_wp2
  go_loopw [6, 7, 8, 9, 10, 11, 12, 13, 14, 15] (fun iv _ _ _ _ _ _ _ _ _ wr => ∃ i : Nat, iv = .int .i64 i ∧ i ≤ cs.length ∧ i ≤ 60 ∧ FIn w ao ao1 m cap cap1 xs wr) (fun iv _ _ _ _ _ _ _ _ _ _ => 60 - (intOf iv).toNat)
  case atStart => exact ⟨0, rfl, by omega, by omega, unhide HI0⟩
  case round =>
    clear HI0
    obtain ⟨i, rfl, hi1, hi2, hin⟩ := hrel
    by_cases hlt : i < cs.length ∧ i < 60
    · obtain ⟨hlt1, hlt2⟩ := hlt
      have hrn := (unhide HR) i hlt1
      obtain ⟨b, off, ⟨c', he⟩, hc0⟩ := (unhide HCS) i hlt1 wr hin.2.2
      obtain ⟨rfl, rfl⟩ : uo = some ⟨b, off, none⟩ ∧ ucap = c' := by simpa using he
      have J1 := hide ((unhide KO) _ _ (cs.getD i 0) wr ((unhide HG) _ hin.2.2) hin.1 hrn)
      have J2 : Hid (∀ W, Below wr.heap.size wr W → Calls Tryz.prog 11 #[.slice ao1 m cap1, .int .i32 (cs.getD i 0)] W (PairB W (Cn.prim xs (cs.getD i 0)))) := fun W hb => (unhide KP) _ _ _ W ((unhide HG) _ (hin.on hb).2.2) (hin.on hb).1 hrn
      have J3 : Hid (∀ W, Below wr.heap.size wr W → Calls Tryz.prog 12 #[.slice ao m cap, .int .i32 (cs.getD i 0)] W (PairB W (Cn.prim xs (cs.getD i 0)))) := fun W hb => refPrimary_any _ _ _ W (hin.on hb).2.1 hrn
      have J4 : Hid (∀ W, Below wr.heap.size wr W → Calls Tryz.prog 13 #[.slice ao1 m cap1, .int .i32 (cs.getD i 0)] W (IntB W (Cn.cls xs (cs.getD i 0)))) := fun W hb => (unhide KL) _ _ _ W ((unhide HG) _ (hin.on hb).2.2) (hin.on hb).1 hrn
      have J5 : Hid (∀ W, Below wr.heap.size wr W → Calls Tryz.prog 14 #[.slice ao m cap, .int .i32 (cs.getD i 0)] W (IntB W (Cn.cls xs (cs.getD i 0)))) := fun W hb => refClass_any _ _ _ W (hin.on hb).2.1 hrn
      have J6 : Hid (∀ W, Below wr.heap.size wr W → Calls Tryz.prog 16 #[.slice ao m cap, .int .i32 (cs.getD i 0)] W (RunesNew W (Cn.opn xs (cs.getD i 0)))) := fun W hb => refOpen_any _ _ _ W (hin.on hb).2.1 hrn
      have hfl := opn_len hin.1 (cs.getD i 0)
      have HIN := hide hin
      clear KO KP KL HCS HR he hin hrn KT HG
      generalize Cn.opn xs (cs.getD i 0) = zs at *
      generalize Cn.cls xs (cs.getD i 0) = kc at *
      generalize Cn.prim xs (cs.getD i 0) = pr at *
      generalize cs.getD i 0 = c at *
      go_wp2_with fail
      refine (unhide J1).mono ?_
      rintro e2 w2 ⟨vx, rfl, okx, hb2⟩
      clear J1
      unfold PairB at J2 J3
      generalize (pr.map (·.1)).getD 0 = pa at *
      generalize (pr.map (·.2)).getD 0 = pb at *
      generalize pr.isSome = pok at *
      go_wp2_with fail
      refine ((unhide J2) w2 hb2).mono ?_
      rintro e3 w3 ⟨rfl, hb3⟩
      clear J2
      have hB3 := bthen hb2 hb3
      go_wp2_with fail
      refine ((unhide J3) w3 hB3).mono ?_
      rintro e4 w4 ⟨rfl, hb4⟩
      clear J3
      have hB4 := bthen hB3 hb4
      have okx4 := (okx.below hb3).below hb4
      have hcm : ¬ cap < m := by omega
      have hcm2 : m ≤ cap := by omega
      have q1 : (kc != kc) = false := by simp
      have q2 : (pa != pa) = false := by simp
      have q3 : (pb != pb) = false := by simp
      have q4 : (pok != pok) = false := by simp
      obtain ⟨xo, xcap, hxv, hx1, hx2⟩ := okx4.sk.shape
      subst hxv
      have HOK : Hid (∀ W, Below w4.heap.size w4 W → Ok .i32 21 W wr.heap.size (.slice xo zs.length xcap) zs) := fun W h => okx4.below h
      have HB4 := hide hB4
      clear okx okx4 hb2 hb3 hb4 hB3 hB4 hc0
      go_upto_region 9 with fail
      refine wp_region_held_drew (S := fun w' => Hid (Below w4.heap.size w4 w')) (by kernel_rfl) (hide (drewB ⟨1, rfl⟩)) (fun hHeld => ?_)
      refine wpAnyH_take (i := 0) (oi := { dst := some 52, op := Op.move (Operand.tmp 5), type := 22, pos := "law.go:39", after := #[], guard := none }) (v := .slice ao1 m cap1) rfl (by kernel_rfl) (by kernel_rfl) (by kernel_rfl) (fun _ _ _ h => h) (Or.inl ⟨by rfl, ?_⟩) hHeld ?_
      · intro w hSw
        go_simp
      try simp only [Act.put, List.setIfInBounds_toArray, List.set_cons_zero, List.set_cons_succ]
      refine wpAnyH_take (i := 1) (oi := { dst := some 53, op := Op.move (Operand.tmp 7), type := 21, pos := "law.go:39", after := #[], guard := none }) (v := .int .i32 c) rfl (by kernel_rfl) (by kernel_rfl) (by kernel_rfl) (fun _ _ _ h => h) (Or.inl ⟨by rfl, ?_⟩) hHeld ?_
      · intro w hSw
        go_simp
      try simp only [Act.put, List.setIfInBounds_toArray, List.set_cons_zero, List.set_cons_succ]
      refine wpAnyH_take (i := 3) (oi := { dst := some 55, op := Op.move (Operand.tmp 0), type := 22, pos := "law.go:39", after := #[], guard := none }) (v := .slice ao rs.length cap) rfl (by kernel_rfl) (by kernel_rfl) (by kernel_rfl) (fun _ _ _ h => h) (Or.inl ⟨by rfl, ?_⟩) hHeld ?_
      · intro w hSw
        go_simp
      try simp only [Act.put, List.setIfInBounds_toArray, List.set_cons_zero, List.set_cons_succ]
      refine wpAnyH_take (i := 4) (oi := { dst := some 56, op := Op.move (Operand.tmp 5), type := 22, pos := "law.go:39", after := #[], guard := none }) (v := .slice ao1 m cap1) rfl (by kernel_rfl) (by kernel_rfl) (by kernel_rfl) (fun _ _ _ h => h) (Or.inl ⟨by rfl, ?_⟩) hHeld ?_
      · intro w hSw
        go_simp
      try simp only [Act.put, List.setIfInBounds_toArray, List.set_cons_zero, List.set_cons_succ]
      refine wpAnyH_take (i := 5) (oi := { dst := some 57, op := Op.call { callee := Callee.builtin Builtin.len, args := #[Operand.tmp 56], argTypes := #[22] }, type := 3, pos := "law.go:39", after := #[{ on := 4, ground := Ground.data }], guard := none }) (v := .int .i64 (m : Int)) rfl (by kernel_rfl) (by kernel_rfl) (by kernel_rfl) (fun _ _ _ h => h) (Or.inl ⟨by rfl, ?_⟩) hHeld ?_
      · intro w hSw
        go_simp
      try simp only [Act.put, List.setIfInBounds_toArray, List.set_cons_zero, List.set_cons_succ]
      refine wpAnyH_take (i := 6) (oi := { dst := some 58, op := Op.slice 22 (Operand.tmp 55) none (some (Operand.tmp 57)) none, type := 22, pos := "law.go:39", after := #[{ on := 3, ground := Ground.data }, { on := 5, ground := Ground.data }], guard := none }) (v := .slice ao m cap) rfl (by kernel_rfl) (by kernel_rfl) (by kernel_rfl) (fun _ _ _ h => h) (Or.inl ⟨by rfl, ?_⟩) hHeld ?_
      · intro w hSw
        go_simp
      try simp only [Act.put, List.setIfInBounds_toArray, List.set_cons_zero, List.set_cons_succ]
      refine wpAnyH_take (i := 7) (oi := { dst := some 59, op := Op.move (Operand.tmp 7), type := 21, pos := "law.go:39", after := #[], guard := none }) (v := .int .i32 c) rfl (by kernel_rfl) (by kernel_rfl) (by kernel_rfl) (fun _ _ _ h => h) (Or.inl ⟨by rfl, ?_⟩) hHeld ?_
      · intro w hSw
        go_simp
      try simp only [Act.put, List.setIfInBounds_toArray, List.set_cons_zero, List.set_cons_succ]
      refine wpAnyH_ready (rs := [2]) (by kernel_rfl) (by simp) ?_
      refine AllReadyH.cons (o := { dst := some 54, op := Op.call { callee := Callee.value (Operand.func 13), args := #[Operand.tmp 52, Operand.tmp 53], argTypes := #[22, 21] }, type := 3, pos := "law.go:39", after := #[{ on := 0, ground := Ground.data }, { on := 1, ground := Ground.data }], guard := none }) rfl (fun K hK => ?_) AllReadyH.nil
      go_simp
      refine ((unhide J4) _ (bthen (unhide HB4) (unhide hHeld))).mono ?_
      rintro e5 w5 ⟨rfl, hb5⟩
      go_wp2_with fail
      refine hK.out _ _ ?_ (fun hHeld => ?_)
      · exact hide (bthen (unhide hHeld) hb5)
      clear hK K
      try simp only [Act.put, List.setIfInBounds_toArray, List.set_cons_zero, List.set_cons_succ]
      refine wpAnyH_ready (rs := [8]) (by kernel_rfl) (by simp) ?_
      refine AllReadyH.cons (o := { dst := some 60, op := Op.call { callee := Callee.value (Operand.func 14), args := #[Operand.tmp 58, Operand.tmp 59], argTypes := #[22, 21] }, type := 3, pos := "law.go:39", after := #[{ on := 6, ground := Ground.data }, { on := 7, ground := Ground.data }, { on := 2, ground := Ground.chain }], guard := none }) rfl (fun K hK => ?_) AllReadyH.nil
      go_simp
      refine ((unhide J5) _ (bthen (unhide HB4) (unhide hHeld))).mono ?_
      rintro e6 w6 ⟨rfl, hb6⟩
      go_wp2_with fail
      refine hK.out _ _ ?_ (fun hHeld => ?_)
      · exact hide (bthen (unhide hHeld) hb6)
      clear hK K
      try simp only [Act.put, List.setIfInBounds_toArray, List.set_cons_zero, List.set_cons_succ]
      refine wpAnyH_take (i := 9) (oi := { dst := some 61, op := Op.binOp BinOp.neq 3 (Operand.tmp 54) (Operand.tmp 60) 3, type := 4, pos := "law.go:39", after := #[{ on := 2, ground := Ground.data }, { on := 8, ground := Ground.data }], guard := none }) (v := .bool false) rfl (by kernel_rfl) (by kernel_rfl) (by kernel_rfl) (fun _ _ _ h => h) (Or.inl ⟨by rfl, ?_⟩) hHeld ?_
      · intro w hSw
        go_simp
      try simp only [Act.put, List.setIfInBounds_toArray, List.set_cons_zero, List.set_cons_succ]
      refine wpAnyH_take (i := 10) (oi := { dst := some 62, op := Op.move (Operand.tmp 61), type := 4, pos := "law.go:39", after := #[{ on := 9, ground := Ground.data }, { on := 8, ground := Ground.chain }], guard := none }) (v := .bool false) rfl (by kernel_rfl) (by kernel_rfl) (by kernel_rfl) (fun _ _ _ h => h) (Or.inl ⟨by rfl, ?_⟩) hHeld ?_
      · intro w hSw
        go_simp
      try simp only [Act.put, List.setIfInBounds_toArray, List.set_cons_zero, List.set_cons_succ]
      refine wpAnyH_take (i := 11) (oi := { dst := some 63, op := Op.move (Operand.tmp 8), type := 23, pos := "law.go:39", after := #[{ on := 10, ground := Ground.guard }], guard := some (10, false) }) (v := .slice xo zs.length xcap) rfl (by kernel_rfl) (by kernel_rfl) (by kernel_rfl) (fun _ _ _ h => h) (Or.inl ⟨by rfl, ?_⟩) hHeld ?_
      · intro w hSw
        go_simp
      try simp only [Act.put, List.setIfInBounds_toArray, List.set_cons_zero, List.set_cons_succ]
      refine wpAnyH_take (i := 12) (oi := { dst := some 64, op := Op.move (Operand.tmp 0), type := 22, pos := "law.go:39", after := #[{ on := 10, ground := Ground.guard }], guard := some (10, false) }) (v := .slice ao rs.length cap) rfl (by kernel_rfl) (by kernel_rfl) (by kernel_rfl) (fun _ _ _ h => h) (Or.inl ⟨by rfl, ?_⟩) hHeld ?_
      · intro w hSw
        go_simp
      try simp only [Act.put, List.setIfInBounds_toArray, List.set_cons_zero, List.set_cons_succ]
      refine wpAnyH_take (i := 13) (oi := { dst := some 65, op := Op.move (Operand.tmp 5), type := 22, pos := "law.go:39", after := #[{ on := 10, ground := Ground.guard }], guard := some (10, false) }) (v := .slice ao1 m cap1) rfl (by kernel_rfl) (by kernel_rfl) (by kernel_rfl) (fun _ _ _ h => h) (Or.inl ⟨by rfl, ?_⟩) hHeld ?_
      · intro w hSw
        go_simp
      try simp only [Act.put, List.setIfInBounds_toArray, List.set_cons_zero, List.set_cons_succ]
      refine wpAnyH_take (i := 14) (oi := { dst := some 66, op := Op.call { callee := Callee.builtin Builtin.len, args := #[Operand.tmp 65], argTypes := #[22] }, type := 3, pos := "law.go:39", after := #[{ on := 13, ground := Ground.data }, { on := 10, ground := Ground.guard }], guard := some (10, false) }) (v := .int .i64 (m : Int)) rfl (by kernel_rfl) (by kernel_rfl) (by kernel_rfl) (fun _ _ _ h => h) (Or.inl ⟨by rfl, ?_⟩) hHeld ?_
      · intro w hSw
        go_simp
      try simp only [Act.put, List.setIfInBounds_toArray, List.set_cons_zero, List.set_cons_succ]
      refine wpAnyH_take (i := 15) (oi := { dst := some 67, op := Op.slice 22 (Operand.tmp 64) none (some (Operand.tmp 66)) none, type := 22, pos := "law.go:39", after := #[{ on := 12, ground := Ground.data }, { on := 14, ground := Ground.data }, { on := 10, ground := Ground.guard }], guard := some (10, false) }) (v := .slice ao m cap) rfl (by kernel_rfl) (by kernel_rfl) (by kernel_rfl) (fun _ _ _ h => h) (Or.inl ⟨by rfl, ?_⟩) hHeld ?_
      · intro w hSw
        go_simp
      try simp only [Act.put, List.setIfInBounds_toArray, List.set_cons_zero, List.set_cons_succ]
      refine wpAnyH_take (i := 16) (oi := { dst := some 68, op := Op.move (Operand.tmp 7), type := 21, pos := "law.go:39", after := #[{ on := 10, ground := Ground.guard }], guard := some (10, false) }) (v := .int .i32 c) rfl (by kernel_rfl) (by kernel_rfl) (by kernel_rfl) (fun _ _ _ h => h) (Or.inl ⟨by rfl, ?_⟩) hHeld ?_
      · intro w hSw
        go_simp
      try simp only [Act.put, List.setIfInBounds_toArray, List.set_cons_zero, List.set_cons_succ]
      refine wpAnyH_ready (rs := [17]) (by kernel_rfl) (by simp) ?_
      refine AllReadyH.cons (o := { dst := some 69, op := Op.call { callee := Callee.value (Operand.func 16), args := #[Operand.tmp 67, Operand.tmp 68], argTypes := #[22, 21] }, type := 23, pos := "law.go:39", after := #[{ on := 15, ground := Ground.data }, { on := 16, ground := Ground.data }, { on := 10, ground := Ground.chain }, { on := 10, ground := Ground.guard }], guard := some (10, false) }) rfl (fun K hK => ?_) AllReadyH.nil
      go_simp
      refine ((unhide J6) _ (bthen (unhide HB4) (unhide hHeld))).mono ?_
      rintro e7 w7 ⟨vy, rfl, oky, hb7⟩
      go_wp2_with fail
      refine hK.out _ _ ?_ (fun hHeld => ?_)
      · exact hide (bthen (unhide hHeld) hb7)
      clear hK K
      try simp only [Act.put, List.setIfInBounds_toArray, List.set_cons_zero, List.set_cons_succ]
      have JS := hide (same3_eq _ vy zs w7 (((unhide HOK) w7 (unhide hHeld)).sk) oky.sk hfl)
      clear oky J4 J5 J6
      refine wpAnyH_ready (rs := [18]) (by kernel_rfl) (by simp) ?_
      refine AllReadyH.cons (o := { dst := some 70, op := Op.call { callee := Callee.value (Operand.func 15), args := #[Operand.tmp 63, Operand.tmp 69], argTypes := #[23, 23] }, type := 4, pos := "law.go:39", after := #[{ on := 11, ground := Ground.data }, { on := 17, ground := Ground.data }, { on := 17, ground := Ground.chain }, { on := 10, ground := Ground.guard }], guard := some (10, false) }) rfl (fun K hK => ?_) AllReadyH.nil
      go_simp
      refine (unhide JS).mono ?_
      rintro e8 w8 ⟨rfl, hd8⟩
      have hb8 := drewB hd8
      clear hd8
      go_wp2_with fail
      refine hK.out _ _ ?_ (fun hHeld => ?_)
      · exact hide (bthen (unhide hHeld) hb8)
      clear hK K
      try simp only [Act.put, List.setIfInBounds_toArray, List.set_cons_zero, List.set_cons_succ]
      refine wpAnyH_take (i := 19) (oi := { dst := some 71, op := Op.unOp UnOp.not 4 (Operand.tmp 70), type := 4, pos := "law.go:39", after := #[{ on := 18, ground := Ground.data }, { on := 10, ground := Ground.guard }], guard := some (10, false) }) (v := .bool false) rfl (by kernel_rfl) (by kernel_rfl) (by kernel_rfl) (fun _ _ _ h => h) (Or.inl ⟨by rfl, ?_⟩) hHeld ?_
      · intro w hSw
        go_simp
      try simp only [Act.put, List.setIfInBounds_toArray, List.set_cons_zero, List.set_cons_succ]
      refine wpAnyH_take (i := 20) (oi := { dst := some 72, op := Op.pick (Operand.tmp 62) (Operand.const (Value.bool true)) (Operand.tmp 71), type := 4, pos := "law.go:39", after := #[{ on := 10, ground := Ground.data }, { on := 19, ground := Ground.data }], guard := none }) (v := .bool false) rfl (by kernel_rfl) (by kernel_rfl) (by kernel_rfl) (fun _ _ _ h => h) (Or.inl ⟨by rfl, ?_⟩) hHeld ?_
      · intro w hSw
        go_simp
      try simp only [Act.put, List.setIfInBounds_toArray, List.set_cons_zero, List.set_cons_succ]
      refine wpAnyH_take (i := 21) (oi := { dst := some 73, op := Op.move (Operand.tmp 72), type := 4, pos := "law.go:39", after := #[{ on := 20, ground := Ground.data }, { on := 18, ground := Ground.chain }], guard := none }) (v := .bool false) rfl (by kernel_rfl) (by kernel_rfl) (by kernel_rfl) (fun _ _ _ h => h) (Or.inl ⟨by rfl, ?_⟩) hHeld ?_
      · intro w hSw
        go_simp
      try simp only [Act.put, List.setIfInBounds_toArray, List.set_cons_zero, List.set_cons_succ]
      refine wpAnyH_take (i := 22) (oi := { dst := some 74, op := Op.move (Operand.tmp 9), type := 21, pos := "law.go:39", after := #[{ on := 21, ground := Ground.guard }], guard := some (21, false) }) (v := .int .i32 pa) rfl (by kernel_rfl) (by kernel_rfl) (by kernel_rfl) (fun _ _ _ h => h) (Or.inl ⟨by rfl, ?_⟩) hHeld ?_
      · intro w hSw
        go_simp
      try simp only [Act.put, List.setIfInBounds_toArray, List.set_cons_zero, List.set_cons_succ]
      refine wpAnyH_take (i := 23) (oi := { dst := some 75, op := Op.move (Operand.tmp 12), type := 21, pos := "law.go:39", after := #[{ on := 21, ground := Ground.guard }], guard := some (21, false) }) (v := .int .i32 pa) rfl (by kernel_rfl) (by kernel_rfl) (by kernel_rfl) (fun _ _ _ h => h) (Or.inl ⟨by rfl, ?_⟩) hHeld ?_
      · intro w hSw
        go_simp
      try simp only [Act.put, List.setIfInBounds_toArray, List.set_cons_zero, List.set_cons_succ]
      refine wpAnyH_take (i := 24) (oi := { dst := some 76, op := Op.binOp BinOp.neq 21 (Operand.tmp 74) (Operand.tmp 75) 21, type := 4, pos := "law.go:39", after := #[{ on := 22, ground := Ground.data }, { on := 23, ground := Ground.data }, { on := 21, ground := Ground.guard }], guard := some (21, false) }) (v := .bool false) rfl (by kernel_rfl) (by kernel_rfl) (by kernel_rfl) (fun _ _ _ h => h) (Or.inl ⟨by rfl, ?_⟩) hHeld ?_
      · intro w hSw
        go_simp
      try simp only [Act.put, List.setIfInBounds_toArray, List.set_cons_zero, List.set_cons_succ]
      refine wpAnyH_take (i := 25) (oi := { dst := some 77, op := Op.pick (Operand.tmp 73) (Operand.const (Value.bool true)) (Operand.tmp 76), type := 4, pos := "law.go:39", after := #[{ on := 21, ground := Ground.data }, { on := 24, ground := Ground.data }], guard := none }) (v := .bool false) rfl (by kernel_rfl) (by kernel_rfl) (by kernel_rfl) (fun _ _ _ h => h) (Or.inl ⟨by rfl, ?_⟩) hHeld ?_
      · intro w hSw
        go_simp
      try simp only [Act.put, List.setIfInBounds_toArray, List.set_cons_zero, List.set_cons_succ]
      refine wpAnyH_take (i := 26) (oi := { dst := some 78, op := Op.move (Operand.tmp 77), type := 4, pos := "law.go:39", after := #[{ on := 25, ground := Ground.data }, { on := 21, ground := Ground.chain }], guard := none }) (v := .bool false) rfl (by kernel_rfl) (by kernel_rfl) (by kernel_rfl) (fun _ _ _ h => h) (Or.inl ⟨by rfl, ?_⟩) hHeld ?_
      · intro w hSw
        go_simp
      try simp only [Act.put, List.setIfInBounds_toArray, List.set_cons_zero, List.set_cons_succ]
      refine wpAnyH_take (i := 27) (oi := { dst := some 79, op := Op.move (Operand.tmp 10), type := 21, pos := "law.go:39", after := #[{ on := 26, ground := Ground.guard }], guard := some (26, false) }) (v := .int .i32 pb) rfl (by kernel_rfl) (by kernel_rfl) (by kernel_rfl) (fun _ _ _ h => h) (Or.inl ⟨by rfl, ?_⟩) hHeld ?_
      · intro w hSw
        go_simp
      try simp only [Act.put, List.setIfInBounds_toArray, List.set_cons_zero, List.set_cons_succ]
      refine wpAnyH_take (i := 28) (oi := { dst := some 80, op := Op.move (Operand.tmp 13), type := 21, pos := "law.go:39", after := #[{ on := 26, ground := Ground.guard }], guard := some (26, false) }) (v := .int .i32 pb) rfl (by kernel_rfl) (by kernel_rfl) (by kernel_rfl) (fun _ _ _ h => h) (Or.inl ⟨by rfl, ?_⟩) hHeld ?_
      · intro w hSw
        go_simp
      try simp only [Act.put, List.setIfInBounds_toArray, List.set_cons_zero, List.set_cons_succ]
      refine wpAnyH_take (i := 29) (oi := { dst := some 81, op := Op.binOp BinOp.neq 21 (Operand.tmp 79) (Operand.tmp 80) 21, type := 4, pos := "law.go:39", after := #[{ on := 27, ground := Ground.data }, { on := 28, ground := Ground.data }, { on := 26, ground := Ground.guard }], guard := some (26, false) }) (v := .bool false) rfl (by kernel_rfl) (by kernel_rfl) (by kernel_rfl) (fun _ _ _ h => h) (Or.inl ⟨by rfl, ?_⟩) hHeld ?_
      · intro w hSw
        go_simp
      try simp only [Act.put, List.setIfInBounds_toArray, List.set_cons_zero, List.set_cons_succ]
      refine wpAnyH_take (i := 30) (oi := { dst := some 82, op := Op.pick (Operand.tmp 78) (Operand.const (Value.bool true)) (Operand.tmp 81), type := 4, pos := "law.go:39", after := #[{ on := 26, ground := Ground.data }, { on := 29, ground := Ground.data }], guard := none }) (v := .bool false) rfl (by kernel_rfl) (by kernel_rfl) (by kernel_rfl) (fun _ _ _ h => h) (Or.inl ⟨by rfl, ?_⟩) hHeld ?_
      · intro w hSw
        go_simp
      try simp only [Act.put, List.setIfInBounds_toArray, List.set_cons_zero, List.set_cons_succ]
      refine wpAnyH_take (i := 31) (oi := { dst := some 83, op := Op.move (Operand.tmp 82), type := 4, pos := "law.go:39", after := #[{ on := 30, ground := Ground.data }, { on := 26, ground := Ground.chain }], guard := none }) (v := .bool false) rfl (by kernel_rfl) (by kernel_rfl) (by kernel_rfl) (fun _ _ _ h => h) (Or.inl ⟨by rfl, ?_⟩) hHeld ?_
      · intro w hSw
        go_simp
      try simp only [Act.put, List.setIfInBounds_toArray, List.set_cons_zero, List.set_cons_succ]
      refine wpAnyH_take (i := 32) (oi := { dst := some 84, op := Op.move (Operand.tmp 11), type := 4, pos := "law.go:39", after := #[{ on := 31, ground := Ground.guard }], guard := some (31, false) }) (v := .bool pok) rfl (by kernel_rfl) (by kernel_rfl) (by kernel_rfl) (fun _ _ _ h => h) (Or.inl ⟨by rfl, ?_⟩) hHeld ?_
      · intro w hSw
        go_simp
      try simp only [Act.put, List.setIfInBounds_toArray, List.set_cons_zero, List.set_cons_succ]
      refine wpAnyH_take (i := 33) (oi := { dst := some 85, op := Op.move (Operand.tmp 14), type := 4, pos := "law.go:39", after := #[{ on := 31, ground := Ground.guard }], guard := some (31, false) }) (v := .bool pok) rfl (by kernel_rfl) (by kernel_rfl) (by kernel_rfl) (fun _ _ _ h => h) (Or.inl ⟨by rfl, ?_⟩) hHeld ?_
      · intro w hSw
        go_simp
      try simp only [Act.put, List.setIfInBounds_toArray, List.set_cons_zero, List.set_cons_succ]
      refine wpAnyH_take (i := 34) (oi := { dst := some 86, op := Op.binOp BinOp.neq 4 (Operand.tmp 84) (Operand.tmp 85) 4, type := 4, pos := "law.go:39", after := #[{ on := 32, ground := Ground.data }, { on := 33, ground := Ground.data }, { on := 31, ground := Ground.guard }], guard := some (31, false) }) (v := .bool false) rfl (by kernel_rfl) (by kernel_rfl) (by kernel_rfl) (fun _ _ _ h => h) (Or.inl ⟨by rfl, ?_⟩) hHeld ?_
      · intro w hSw
        go_simp
      try simp only [Act.put, List.setIfInBounds_toArray, List.set_cons_zero, List.set_cons_succ]
      refine wpAnyH_take (i := 35) (oi := { dst := some 87, op := Op.pick (Operand.tmp 83) (Operand.const (Value.bool true)) (Operand.tmp 86), type := 4, pos := "law.go:39", after := #[{ on := 31, ground := Ground.data }, { on := 34, ground := Ground.data }], guard := none }) (v := .bool false) rfl (by kernel_rfl) (by kernel_rfl) (by kernel_rfl) (fun _ _ _ h => h) (Or.inl ⟨by rfl, ?_⟩) hHeld ?_
      · intro w hSw
        go_simp
      try simp only [Act.put, List.setIfInBounds_toArray, List.set_cons_zero, List.set_cons_succ]
      refine wpAnyH_done (by kernel_rfl) ?_ _
      have hw8 := unhide hHeld
      have hB4 : Below wr.heap.size wr w8 := bthen (unhide HB4) hw8
      have hr4 : w8.ownsRow wr.heap.size 21 1 (.slice xo zs.length xcap) zs.length (zs.map (Value.int .i32)) := ((unhide HOK) w8 hw8).row
      clear JS HOK HB4 hw8 hHeld
      obtain ⟨w4, hw4⟩ : ∃ x : World, x = w8 := ⟨w8, rfl⟩
      subst hw4
      rcases Nat.eq_zero_or_pos zs.length with n0 | n0
      · rw [n0]
        have HZ := hide ((unhide HIN).on hB4)
        clear hr4 hB4 HIN
        go_wp2
        refine wp_loop_rounds 1 ?_
        rw [rounds_succ]
        go_wp2
        go_roundw
        case rel => exact ⟨i + 1, by go_num, by omega, by omega, unhide HZ⟩
        case measure => simp [intOf]; omega
      · obtain ⟨gx, capx, curx, hvx, hgB, hgx, hxn, hxc, hxs⟩ : ∃ g cap cur, Value.slice xo zs.length xcap = .slice (some ⟨g, 0, none⟩) zs.length cap ∧ wr.heap.size ≤ g ∧ w4.heap[g]? = some (.cells cur 21 (0, 0)) ∧ zs.length ≤ cap ∧ cap ≤ maxLen ∧ cur.size = cap * 1 := by
          rcases hr4.2 with ⟨_, h⟩ | ⟨g, cap, cur, a, b, c, d, e, f, _⟩
          · omega
          · exact ⟨g, cap, cur, a, b, c, d, e, f⟩
        obtain ⟨rfl, rfl⟩ : xo = some ⟨gx, 0, none⟩ ∧ xcap = capx := by simpa using hvx
        rw [Nat.mul_one] at hxs
        unfold maxLen at hxc
        have HI2 : Hid (∃ cur' : Array Value, w4.heap[gx]? = some (.cells cur' 21 (0, 0)) ∧ cur'.size = xcap ∧ Below wr.heap.size wr w4) := ⟨curx, hgx, hxs, hB4⟩
        clear hr4 hB4 hgx hxs hvx
        obtain ⟨wo, hwo⟩ : ∃ x : World, x = wr := ⟨wr, rfl⟩
        subst hwo
        go_wp2
        go_loopw [15] (fun kv wi => ∃ k2 : Nat, kv = .int .i64 k2 ∧ k2 ≤ zs.length ∧ ∃ cur' : Array Value, wi.heap[gx]? = some (.cells cur' 21 (0, 0)) ∧ cur'.size = xcap ∧ Below wo.heap.size wo wi) (fun kv _ => zs.length - (intOf kv).toNat)
        case atStart => exact ⟨0, rfl, by omega, unhide HI2⟩
        case round =>
          clear HI2
          obtain ⟨k2, rfl, hk2, cur2, hc2, hcs2, hB2⟩ := hrel
          by_cases hlk : k2 < zs.length
          · have cc := cell_of (j := k2) hc2 (by omega)
            have fz := frozen_of (j := k2) hc2
            have HX : Hid (∃ cur' : Array Value, (wr.setCell ⟨gx, k2, none⟩ (.int .i32 (-9))).heap[gx]? = some (.cells cur' 21 (0, 0)) ∧ cur'.size = xcap ∧ Below wo.heap.size wo (wr.setCell ⟨gx, k2, none⟩ (.int .i32 (-9)))) := ⟨_, set_block hc2 _, by simpa using hcs2, below_set hB2 hgB _⟩
            clear hc2 hcs2 hB2 HIN
            go_wp2
            go_roundw
            case rel => exact ⟨k2 + 1, by go_num, by omega, unhide HX⟩
            case measure => simp [intOf]; omega
          · have HZ := hide ((unhide HIN).on hB2)
            clear hc2 hcs2 hB2 HIN
            go_wp2
            go_roundw
            case rel => exact ⟨i + 1, by go_num, by omega, by omega, unhide HZ⟩
            case measure => simp [intOf]; omega
    · have hex : ¬ i < cs.length ∨ (i < cs.length ∧ ¬ i < 60) := by omega
      have HIN := hide hin
      clear hlt KO KP KL HCS HR hin
      rcases hex with hex | ⟨hex, hex2⟩
      all_goals
        go_wp2_with fail
        refine ((unhide KT) wr ((unhide HG) _ (unhide HIN).2.2)).mono ?_
        rintro e4 w4 ⟨rfl, hb4⟩
        have h4 := (unhide HIN).on hb4
        have JS := hide (sameRecs_eq _ _ _ w4 h4.1 h4.2.1)
        have hB4 := h4.2.2
        clear KT HIN h4
        go_wp2_with fail
        refine (unhide JS).mono ?_
        rintro e5 w5 ⟨rfl, hb5⟩
        have HF : Tells w true (.returned (.bool true)) w5 := ⟨rfl, hB4.trans (hb5.mono hB4.size)⟩
        clear JS
        go_wp2
        go_ret
        exact HF
end Go.Proofs.YteigibncdbgpmaaGreatDoor
