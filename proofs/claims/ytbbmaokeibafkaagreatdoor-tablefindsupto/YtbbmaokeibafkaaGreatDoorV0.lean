import Derived.Test.YtbbmaokeibafkaaGreatDoorN35
import Derived.Test.YtbbmaokeibafkaaGreatDoorN37
import Derived.Test.YtbbmaokeibafkaaGreatDoorN21
import Derived.Test.YtbbmaokeibafkaaGreatDoorN16
import Derived.Deep.RegionHeld
namespace Go.Proofs.YtbbmaokeibafkaaGreatDoor
open Go.RowKit Go.Shelf
set_option maxRecDepth 20000 in
set_option maxHeartbeats 4000000 in
theorem finds_law6 (v cv : Value) (rs0 : List Rec) (f0 : Int) (cs : List Int) (w : World) (hg : Glob w) (hs : Sn.Glob w) (hl : Rcs w v rs0) (hf0 : I64 f0) (hcs : Sk .i32 w cv cs) : Calls Tryz.prog 4 #[v, .int .i64 f0, cv] w (BoolB w true) := by
  obtain ⟨ao, lc, rfl, hc1, hc2⟩ := hl.shape
  obtain ⟨co, cc, hcv, hd1, hd2⟩ := hcs.shape
  subst hcv
  have hlen : (rs0.take 120).length ≤ rs0.length := by rw [List.length_take]; omega
  have hpre : rs0.take (rs0.take 120).length = rs0.take 120 := by
    rw [List.length_take]
    by_cases h : 120 ≤ rs0.length
    · rw [Nat.min_eq_left h]
    · rw [Nat.min_eq_right (by omega), List.take_of_length_le (Nat.le_refl _), List.take_of_length_le (by omega)]
  have hfit : ∀ r ∈ rs0.take 120, RecFit r := fun r hr => hl.2.1 r (List.mem_of_mem_take hr)
  have hrl : (rs0.take 120).length ≤ 1000000000 := Nat.le_trans hlen hl.1
  have hr0 := hl.1
  have hcl := hcs.len
  have K1 := hide (few_any6 _ rs0 120 w hl (by decide))
  have HG := hide hg
  have HS := hide hs
  have HL := hide hl
  have HCS := hide hcs
  have HPRE := hide hpre
  have HFIT := hide hfit
  have HF0 := hide hf0
  clear hg hs hl hpre hfit hcs
  generalize hns : rs0.take 120 = rs at *
  generalize hn : rs.length = n at *
  have HN := hide hn
  clear hn hns
  generalize hN : rs0.length = N at *
  have HNN := hide hN
  clear hN
  go_enter Tryz.func4, Tryz.ntmps4
  go_wp2_with fail
  refine (unhide K1).mono ?_
  rintro e w1 ⟨g, cap, ps, rfl, hF, b1⟩
  have hz := unhide HN
  subst hz
  have hcap : rs.length ≤ cap ∧ cap ≤ 9223372036854775807 := by
    obtain ⟨_, _, he, p1, p2⟩ := (fw_rcs6 hF hrl (unhide HFIT)).shape
    obtain ⟨_, _, q3⟩ := Value.slice.inj he
    subst q3
    exact ⟨p1, p2⟩
  have KF : Hid (∀ W f c, Below w1.heap.size w1 W → I64 f → (-2147483648 ≤ c ∧ c ≤ 2147483647) → Calls Tryz.prog 13 #[.slice (some ⟨g, 0, none⟩) rs.length cap, .int .i64 f, .int .i32 c] W (IntB W (Cn.find rs f c))) := fun W f c hW h1 h2 => find_any _ _ f c W ((unhide HG).on (bthen b1 hW)) ((fw_rcs6 hF hrl (unhide HFIT)).below hW) h1 h2
  have KR : Hid (∀ W f c, Below w1.heap.size w1 W → I64 f → (-2147483648 ≤ c ∧ c ≤ 2147483647) → Calls Tryz.prog 14 #[.slice ao rs.length lc, .int .i64 f, .int .i32 c] W (IntB W (Cn.find rs f c))) := fun W f c hW h1 h2 => by
    have hH := ((unhide HL).below (bthen b1 hW)).head (k := rs.length) (by omega)
    rw [unhide HPRE] at hH
    exact refFind_any _ _ f c W hH h1 h2
  have KX : Hid (∀ W k, k < cs.length → Below w1.heap.size w1 W → ∃ b off, co = some ⟨b, off, none⟩ ∧ W.cell? ⟨b, off + k, none⟩ = some (.int .i32 (cs.getD k 0))) := fun W k hk hW => by
    obtain ⟨b, off, cp, he, _, _, hc⟩ := ((unhide HCS).below (bthen b1 hW)).place (by omega)
    exact ⟨b, off, (Value.slice.inj he).1, hc k hk⟩
  have KC : Hid (∀ k, k < cs.length → -2147483648 ≤ cs.getD k 0 ∧ cs.getD k 0 ≤ 2147483647) := fun k hk => rune_of (unhide HCS) hk
  have HF := hide hF
  have HB := hide b1
  clear K1 hF b1
  go_wp2_with fail
  go_loopw [8] (fun iv wr => ∃ k : Nat, iv = .int .i64 k ∧ k ≤ cs.length ∧ k ≤ 60 ∧ Below w1.heap.size w1 wr) (fun iv _ => 60 - (intOf iv).toNat)
  case atStart => exact ⟨0, rfl, by omega, by omega, Below.refl _ _⟩
  case round =>
    obtain ⟨k, rfl, hk, hk6, hbr⟩ := hrel
    by_cases hlt : k < cs.length ∧ k < 60
    · obtain ⟨hlt, hlt6⟩ := hlt
      obtain ⟨b, off, rfl, hx0⟩ := (unhide KX) wr k hlt hbr
      have hrc := (unhide KC) k hlt
      have HX : Hid (∀ W, Below wr.heap.size wr W → W.cell? ⟨b, off + k, none⟩ = some (.int .i32 (cs.getD k 0))) := fun W hW => by rw [hW.cell (lt_of_cell? hx0)]; exact hx0
      have HBR := hide hbr
      clear KX KC hx0 hbr
      generalize cs.getD k 0 = c at *
      by_cases h3 : k % 3 = 0
      · go_wp2_with fail
        have HD := hide (bthen (unhide HBR) (drewB ⟨1, rfl⟩ : Below wr.heap.size wr wr.drew))
        refine wp_region_held_drew (S := fun w' => Below wr.heap.size wr w') (by kernel_rfl) (drewB ⟨1, rfl⟩) (fun hHeld => ?_)
        refine wpAnyH_take (i := 0) (oi := { dst := some 28, op := Op.move (Operand.tmp 7), type := 22, pos := "law.go:69", after := #[], guard := none }) (v := .slice (some ⟨g, 0, none⟩) rs.length cap) rfl (by kernel_rfl) (by kernel_rfl) (by kernel_rfl) (fun _ _ _ h => h) (Or.inl ⟨by rfl, ?_⟩) hHeld ?_
        · intro w hSw
          go_simp
        try simp only [Act.put, List.setIfInBounds_toArray, List.set_cons_zero, List.set_cons_succ]
        refine wpAnyH_take (i := 1) (oi := { dst := some 29, op := Op.move (Operand.tmp 9), type := 3, pos := "law.go:69", after := #[], guard := none }) (v := .int .i64 f0) rfl (by kernel_rfl) (by kernel_rfl) (by kernel_rfl) (fun _ _ _ h => h) (Or.inl ⟨by rfl, ?_⟩) hHeld ?_
        · intro w hSw
          go_simp
        try simp only [Act.put, List.setIfInBounds_toArray, List.set_cons_zero, List.set_cons_succ]
        refine wpAnyH_take (i := 2) (oi := { dst := some 30, op := Op.move (Operand.tmp 2), type := 32, pos := "law.go:69", after := #[], guard := none }) (v := .slice (some ⟨b, off, none⟩) cs.length cc) rfl (by kernel_rfl) (by kernel_rfl) (by kernel_rfl) (fun _ _ _ h => h) (Or.inl ⟨by rfl, ?_⟩) hHeld ?_
        · intro w hSw
          go_simp
        try simp only [Act.put, List.setIfInBounds_toArray, List.set_cons_zero, List.set_cons_succ]
        refine wpAnyH_take (i := 3) (oi := { dst := some 31, op := Op.move (Operand.tmp 8), type := 3, pos := "law.go:69", after := #[], guard := none }) (v := .int .i64 (k : Int)) rfl (by kernel_rfl) (by kernel_rfl) (by kernel_rfl) (fun _ _ _ h => h) (Or.inl ⟨by rfl, ?_⟩) hHeld ?_
        · intro w hSw
          go_simp
        try simp only [Act.put, List.setIfInBounds_toArray, List.set_cons_zero, List.set_cons_succ]
        refine wpAnyH_take (i := 4) (oi := { dst := some 32, op := Op.indexAddr 32 (Operand.tmp 30) (Operand.tmp 31), type := 0, pos := "law.go:69", after := #[{ on := 2, ground := Ground.data }, { on := 3, ground := Ground.data }], guard := none }) (v := .pointer (some ⟨b, off + k, none⟩)) rfl (by kernel_rfl) (by kernel_rfl) (by kernel_rfl) (fun _ _ _ h => h) (Or.inl ⟨by rfl, ?_⟩) hHeld ?_
        · intro w hSw
          go_simp
        try simp only [Act.put, List.setIfInBounds_toArray, List.set_cons_zero, List.set_cons_succ]
        refine wpAnyH_take (i := 5) (oi := { dst := some 33, op := Op.load 21 (Operand.tmp 32), type := 21, pos := "law.go:69", after := #[{ on := 4, ground := Ground.data }], guard := none }) (v := .int .i32 c) rfl (by kernel_rfl) (by kernel_rfl) (by kernel_rfl) (fun _ _ _ h => h) (Or.inl ⟨by rfl, ?_⟩) hHeld ?_
        · intro w hSw
          have s0 := (unhide HX) w hSw; go_simp
        try simp only [Act.put, List.setIfInBounds_toArray, List.set_cons_zero, List.set_cons_succ]
        refine wpAnyH_take (i := 7) (oi := { dst := some 35, op := Op.move (Operand.tmp 0), type := 22, pos := "law.go:69", after := #[], guard := none }) (v := .slice ao N lc) rfl (by kernel_rfl) (by kernel_rfl) (by kernel_rfl) (fun _ _ _ h => h) (Or.inl ⟨by rfl, ?_⟩) hHeld ?_
        · intro w hSw
          go_simp
        try simp only [Act.put, List.setIfInBounds_toArray, List.set_cons_zero, List.set_cons_succ]
        refine wpAnyH_take (i := 8) (oi := { dst := some 36, op := Op.move (Operand.tmp 7), type := 22, pos := "law.go:69", after := #[], guard := none }) (v := .slice (some ⟨g, 0, none⟩) rs.length cap) rfl (by kernel_rfl) (by kernel_rfl) (by kernel_rfl) (fun _ _ _ h => h) (Or.inl ⟨by rfl, ?_⟩) hHeld ?_
        · intro w hSw
          go_simp
        try simp only [Act.put, List.setIfInBounds_toArray, List.set_cons_zero, List.set_cons_succ]
        refine wpAnyH_take (i := 9) (oi := { dst := some 37, op := Op.call { callee := Callee.builtin Builtin.len, args := #[Operand.tmp 36], argTypes := #[22] }, type := 3, pos := "law.go:69", after := #[{ on := 8, ground := Ground.data }], guard := none }) (v := .int .i64 (rs.length : Int)) rfl (by kernel_rfl) (by kernel_rfl) (by kernel_rfl) (fun _ _ _ h => h) (Or.inl ⟨by rfl, ?_⟩) hHeld ?_
        · intro w hSw
          go_simp
        try simp only [Act.put, List.setIfInBounds_toArray, List.set_cons_zero, List.set_cons_succ]
        refine wpAnyH_take (i := 10) (oi := { dst := some 38, op := Op.slice 22 (Operand.tmp 35) none (some (Operand.tmp 37)) none, type := 22, pos := "law.go:69", after := #[{ on := 7, ground := Ground.data }, { on := 9, ground := Ground.data }], guard := none }) (v := .slice ao rs.length lc) rfl (by kernel_rfl) (by kernel_rfl) (by kernel_rfl) (fun _ _ _ h => h) (Or.inl ⟨by rfl, ?_⟩) hHeld ?_
        · intro w hSw
          go_simp; intro h; omega
        try simp only [Act.put, List.setIfInBounds_toArray, List.set_cons_zero, List.set_cons_succ]
        refine wpAnyH_take (i := 11) (oi := { dst := some 39, op := Op.move (Operand.tmp 9), type := 3, pos := "law.go:69", after := #[], guard := none }) (v := .int .i64 f0) rfl (by kernel_rfl) (by kernel_rfl) (by kernel_rfl) (fun _ _ _ h => h) (Or.inl ⟨by rfl, ?_⟩) hHeld ?_
        · intro w hSw
          go_simp
        try simp only [Act.put, List.setIfInBounds_toArray, List.set_cons_zero, List.set_cons_succ]
        refine wpAnyH_take (i := 12) (oi := { dst := some 40, op := Op.move (Operand.tmp 2), type := 32, pos := "law.go:69", after := #[], guard := none }) (v := .slice (some ⟨b, off, none⟩) cs.length cc) rfl (by kernel_rfl) (by kernel_rfl) (by kernel_rfl) (fun _ _ _ h => h) (Or.inl ⟨by rfl, ?_⟩) hHeld ?_
        · intro w hSw
          go_simp
        try simp only [Act.put, List.setIfInBounds_toArray, List.set_cons_zero, List.set_cons_succ]
        refine wpAnyH_take (i := 13) (oi := { dst := some 41, op := Op.move (Operand.tmp 8), type := 3, pos := "law.go:69", after := #[], guard := none }) (v := .int .i64 (k : Int)) rfl (by kernel_rfl) (by kernel_rfl) (by kernel_rfl) (fun _ _ _ h => h) (Or.inl ⟨by rfl, ?_⟩) hHeld ?_
        · intro w hSw
          go_simp
        try simp only [Act.put, List.setIfInBounds_toArray, List.set_cons_zero, List.set_cons_succ]
        refine wpAnyH_take (i := 14) (oi := { dst := some 42, op := Op.indexAddr 32 (Operand.tmp 40) (Operand.tmp 41), type := 0, pos := "law.go:69", after := #[{ on := 12, ground := Ground.data }, { on := 13, ground := Ground.data }], guard := none }) (v := .pointer (some ⟨b, off + k, none⟩)) rfl (by kernel_rfl) (by kernel_rfl) (by kernel_rfl) (fun _ _ _ h => h) (Or.inl ⟨by rfl, ?_⟩) hHeld ?_
        · intro w hSw
          go_simp
        try simp only [Act.put, List.setIfInBounds_toArray, List.set_cons_zero, List.set_cons_succ]
        refine wpAnyH_take (i := 15) (oi := { dst := some 43, op := Op.load 21 (Operand.tmp 42), type := 21, pos := "law.go:69", after := #[{ on := 14, ground := Ground.data }], guard := none }) (v := .int .i32 c) rfl (by kernel_rfl) (by kernel_rfl) (by kernel_rfl) (fun _ _ _ h => h) (Or.inl ⟨by rfl, ?_⟩) hHeld ?_
        · intro w hSw
          have s0 := (unhide HX) w hSw; go_simp
        try simp only [Act.put, List.setIfInBounds_toArray, List.set_cons_zero, List.set_cons_succ]
        refine wpAnyH_ready (rs := [6]) (by kernel_rfl) (by simp) ?_
        refine AllReadyH.cons (o := { dst := some 34, op := Op.call { callee := Callee.value (Operand.func 13), args := #[Operand.tmp 28, Operand.tmp 29, Operand.tmp 33], argTypes := #[22, 3, 21] }, type := 3, pos := "law.go:69", after := #[{ on := 0, ground := Ground.data }, { on := 1, ground := Ground.data }, { on := 5, ground := Ground.data }], guard := none }) rfl (fun K hK => ?_) AllReadyH.nil
        go_simp
        refine ((unhide KF) _ f0 c (bthen (unhide HBR) hHeld) (unhide HF0) hrc).mono ?_
        rintro e w2 ⟨rfl, hb2⟩
        go_wp2_with fail
        refine hK.out _ _ ?_ (fun hHeld2 => ?_)
        · exact bthen hHeld hb2
        clear hK K hb2 hHeld
        have hHeld := hHeld2
        clear hHeld2
        try simp only [Act.put, List.setIfInBounds_toArray, List.set_cons_zero, List.set_cons_succ]
        refine wpAnyH_ready (rs := [16]) (by kernel_rfl) (by simp) ?_
        refine AllReadyH.cons (o := { dst := some 44, op := Op.call { callee := Callee.value (Operand.func 14), args := #[Operand.tmp 38, Operand.tmp 39, Operand.tmp 43], argTypes := #[22, 3, 21] }, type := 3, pos := "law.go:69", after := #[{ on := 10, ground := Ground.data }, { on := 11, ground := Ground.data }, { on := 15, ground := Ground.data }, { on := 6, ground := Ground.chain }], guard := none }) rfl (fun K hK => ?_) AllReadyH.nil
        go_simp
        refine ((unhide KR) _ f0 c (bthen (unhide HBR) hHeld) (unhide HF0) hrc).mono ?_
        rintro e w2 ⟨rfl, hb2⟩
        go_wp2_with fail
        refine hK.out _ _ ?_ (fun hHeld2 => ?_)
        · exact bthen hHeld hb2
        clear hK K hb2 hHeld
        have hHeld := hHeld2
        clear hHeld2
        try simp only [Act.put, List.setIfInBounds_toArray, List.set_cons_zero, List.set_cons_succ]
        refine wpAnyH_take (i := 17) (oi := { dst := some 45, op := Op.binOp BinOp.neq 3 (Operand.tmp 34) (Operand.tmp 44) 3, type := 4, pos := "law.go:69", after := #[{ on := 6, ground := Ground.data }, { on := 16, ground := Ground.data }], guard := none }) (v := .bool false) rfl (by kernel_rfl) (by kernel_rfl) (by kernel_rfl) (fun _ _ _ h => h) (Or.inl ⟨by rfl, ?_⟩) hHeld ?_
        · intro w hSw
          go_simp
        try simp only [Act.put, List.setIfInBounds_toArray, List.set_cons_zero, List.set_cons_succ]
        refine wpAnyH_done (by kernel_rfl) ?_ _
        have HE := hide (bthen (unhide HBR) hHeld)
        clear hHeld HD HX HBR
        go_wp2_with fail
        go_roundw
        case rel => exact ⟨k + 1, by go_num, by omega, by omega, unhide HE⟩
        case measure => simp [intOf]; omega
      · go_wp2_with fail
        have HD := hide (bthen (unhide HBR) (drewB ⟨1, rfl⟩ : Below wr.heap.size wr wr.drew))
        refine wp_region_held_drew (S := fun w' => Below wr.heap.size wr w') (by kernel_rfl) (drewB ⟨1, rfl⟩) (fun hHeld => ?_)
        refine wpAnyH_take (i := 0) (oi := { dst := some 28, op := Op.move (Operand.tmp 7), type := 22, pos := "law.go:69", after := #[], guard := none }) (v := .slice (some ⟨g, 0, none⟩) rs.length cap) rfl (by kernel_rfl) (by kernel_rfl) (by kernel_rfl) (fun _ _ _ h => h) (Or.inl ⟨by rfl, ?_⟩) hHeld ?_
        · intro w hSw
          go_simp
        try simp only [Act.put, List.setIfInBounds_toArray, List.set_cons_zero, List.set_cons_succ]
        refine wpAnyH_take (i := 1) (oi := { dst := some 29, op := Op.move (Operand.tmp 9), type := 3, pos := "law.go:69", after := #[], guard := none }) (v := .int .i64 ((k : Int) % 12)) rfl (by kernel_rfl) (by kernel_rfl) (by kernel_rfl) (fun _ _ _ h => h) (Or.inl ⟨by rfl, ?_⟩) hHeld ?_
        · intro w hSw
          go_simp
        try simp only [Act.put, List.setIfInBounds_toArray, List.set_cons_zero, List.set_cons_succ]
        refine wpAnyH_take (i := 2) (oi := { dst := some 30, op := Op.move (Operand.tmp 2), type := 32, pos := "law.go:69", after := #[], guard := none }) (v := .slice (some ⟨b, off, none⟩) cs.length cc) rfl (by kernel_rfl) (by kernel_rfl) (by kernel_rfl) (fun _ _ _ h => h) (Or.inl ⟨by rfl, ?_⟩) hHeld ?_
        · intro w hSw
          go_simp
        try simp only [Act.put, List.setIfInBounds_toArray, List.set_cons_zero, List.set_cons_succ]
        refine wpAnyH_take (i := 3) (oi := { dst := some 31, op := Op.move (Operand.tmp 8), type := 3, pos := "law.go:69", after := #[], guard := none }) (v := .int .i64 (k : Int)) rfl (by kernel_rfl) (by kernel_rfl) (by kernel_rfl) (fun _ _ _ h => h) (Or.inl ⟨by rfl, ?_⟩) hHeld ?_
        · intro w hSw
          go_simp
        try simp only [Act.put, List.setIfInBounds_toArray, List.set_cons_zero, List.set_cons_succ]
        refine wpAnyH_take (i := 4) (oi := { dst := some 32, op := Op.indexAddr 32 (Operand.tmp 30) (Operand.tmp 31), type := 0, pos := "law.go:69", after := #[{ on := 2, ground := Ground.data }, { on := 3, ground := Ground.data }], guard := none }) (v := .pointer (some ⟨b, off + k, none⟩)) rfl (by kernel_rfl) (by kernel_rfl) (by kernel_rfl) (fun _ _ _ h => h) (Or.inl ⟨by rfl, ?_⟩) hHeld ?_
        · intro w hSw
          go_simp
        try simp only [Act.put, List.setIfInBounds_toArray, List.set_cons_zero, List.set_cons_succ]
        refine wpAnyH_take (i := 5) (oi := { dst := some 33, op := Op.load 21 (Operand.tmp 32), type := 21, pos := "law.go:69", after := #[{ on := 4, ground := Ground.data }], guard := none }) (v := .int .i32 c) rfl (by kernel_rfl) (by kernel_rfl) (by kernel_rfl) (fun _ _ _ h => h) (Or.inl ⟨by rfl, ?_⟩) hHeld ?_
        · intro w hSw
          have s0 := (unhide HX) w hSw; go_simp
        try simp only [Act.put, List.setIfInBounds_toArray, List.set_cons_zero, List.set_cons_succ]
        refine wpAnyH_take (i := 7) (oi := { dst := some 35, op := Op.move (Operand.tmp 0), type := 22, pos := "law.go:69", after := #[], guard := none }) (v := .slice ao N lc) rfl (by kernel_rfl) (by kernel_rfl) (by kernel_rfl) (fun _ _ _ h => h) (Or.inl ⟨by rfl, ?_⟩) hHeld ?_
        · intro w hSw
          go_simp
        try simp only [Act.put, List.setIfInBounds_toArray, List.set_cons_zero, List.set_cons_succ]
        refine wpAnyH_take (i := 8) (oi := { dst := some 36, op := Op.move (Operand.tmp 7), type := 22, pos := "law.go:69", after := #[], guard := none }) (v := .slice (some ⟨g, 0, none⟩) rs.length cap) rfl (by kernel_rfl) (by kernel_rfl) (by kernel_rfl) (fun _ _ _ h => h) (Or.inl ⟨by rfl, ?_⟩) hHeld ?_
        · intro w hSw
          go_simp
        try simp only [Act.put, List.setIfInBounds_toArray, List.set_cons_zero, List.set_cons_succ]
        refine wpAnyH_take (i := 9) (oi := { dst := some 37, op := Op.call { callee := Callee.builtin Builtin.len, args := #[Operand.tmp 36], argTypes := #[22] }, type := 3, pos := "law.go:69", after := #[{ on := 8, ground := Ground.data }], guard := none }) (v := .int .i64 (rs.length : Int)) rfl (by kernel_rfl) (by kernel_rfl) (by kernel_rfl) (fun _ _ _ h => h) (Or.inl ⟨by rfl, ?_⟩) hHeld ?_
        · intro w hSw
          go_simp
        try simp only [Act.put, List.setIfInBounds_toArray, List.set_cons_zero, List.set_cons_succ]
        refine wpAnyH_take (i := 10) (oi := { dst := some 38, op := Op.slice 22 (Operand.tmp 35) none (some (Operand.tmp 37)) none, type := 22, pos := "law.go:69", after := #[{ on := 7, ground := Ground.data }, { on := 9, ground := Ground.data }], guard := none }) (v := .slice ao rs.length lc) rfl (by kernel_rfl) (by kernel_rfl) (by kernel_rfl) (fun _ _ _ h => h) (Or.inl ⟨by rfl, ?_⟩) hHeld ?_
        · intro w hSw
          go_simp; intro h; omega
        try simp only [Act.put, List.setIfInBounds_toArray, List.set_cons_zero, List.set_cons_succ]
        refine wpAnyH_take (i := 11) (oi := { dst := some 39, op := Op.move (Operand.tmp 9), type := 3, pos := "law.go:69", after := #[], guard := none }) (v := .int .i64 ((k : Int) % 12)) rfl (by kernel_rfl) (by kernel_rfl) (by kernel_rfl) (fun _ _ _ h => h) (Or.inl ⟨by rfl, ?_⟩) hHeld ?_
        · intro w hSw
          go_simp
        try simp only [Act.put, List.setIfInBounds_toArray, List.set_cons_zero, List.set_cons_succ]
        refine wpAnyH_take (i := 12) (oi := { dst := some 40, op := Op.move (Operand.tmp 2), type := 32, pos := "law.go:69", after := #[], guard := none }) (v := .slice (some ⟨b, off, none⟩) cs.length cc) rfl (by kernel_rfl) (by kernel_rfl) (by kernel_rfl) (fun _ _ _ h => h) (Or.inl ⟨by rfl, ?_⟩) hHeld ?_
        · intro w hSw
          go_simp
        try simp only [Act.put, List.setIfInBounds_toArray, List.set_cons_zero, List.set_cons_succ]
        refine wpAnyH_take (i := 13) (oi := { dst := some 41, op := Op.move (Operand.tmp 8), type := 3, pos := "law.go:69", after := #[], guard := none }) (v := .int .i64 (k : Int)) rfl (by kernel_rfl) (by kernel_rfl) (by kernel_rfl) (fun _ _ _ h => h) (Or.inl ⟨by rfl, ?_⟩) hHeld ?_
        · intro w hSw
          go_simp
        try simp only [Act.put, List.setIfInBounds_toArray, List.set_cons_zero, List.set_cons_succ]
        refine wpAnyH_take (i := 14) (oi := { dst := some 42, op := Op.indexAddr 32 (Operand.tmp 40) (Operand.tmp 41), type := 0, pos := "law.go:69", after := #[{ on := 12, ground := Ground.data }, { on := 13, ground := Ground.data }], guard := none }) (v := .pointer (some ⟨b, off + k, none⟩)) rfl (by kernel_rfl) (by kernel_rfl) (by kernel_rfl) (fun _ _ _ h => h) (Or.inl ⟨by rfl, ?_⟩) hHeld ?_
        · intro w hSw
          go_simp
        try simp only [Act.put, List.setIfInBounds_toArray, List.set_cons_zero, List.set_cons_succ]
        refine wpAnyH_take (i := 15) (oi := { dst := some 43, op := Op.load 21 (Operand.tmp 42), type := 21, pos := "law.go:69", after := #[{ on := 14, ground := Ground.data }], guard := none }) (v := .int .i32 c) rfl (by kernel_rfl) (by kernel_rfl) (by kernel_rfl) (fun _ _ _ h => h) (Or.inl ⟨by rfl, ?_⟩) hHeld ?_
        · intro w hSw
          have s0 := (unhide HX) w hSw; go_simp
        try simp only [Act.put, List.setIfInBounds_toArray, List.set_cons_zero, List.set_cons_succ]
        refine wpAnyH_ready (rs := [6]) (by kernel_rfl) (by simp) ?_
        refine AllReadyH.cons (o := { dst := some 34, op := Op.call { callee := Callee.value (Operand.func 13), args := #[Operand.tmp 28, Operand.tmp 29, Operand.tmp 33], argTypes := #[22, 3, 21] }, type := 3, pos := "law.go:69", after := #[{ on := 0, ground := Ground.data }, { on := 1, ground := Ground.data }, { on := 5, ground := Ground.data }], guard := none }) rfl (fun K hK => ?_) AllReadyH.nil
        go_simp
        refine ((unhide KF) _ ((k : Int) % 12) c (bthen (unhide HBR) hHeld) (by unfold I64; omega) hrc).mono ?_
        rintro e w2 ⟨rfl, hb2⟩
        go_wp2_with fail
        refine hK.out _ _ ?_ (fun hHeld2 => ?_)
        · exact bthen hHeld hb2
        clear hK K hb2 hHeld
        have hHeld := hHeld2
        clear hHeld2
        try simp only [Act.put, List.setIfInBounds_toArray, List.set_cons_zero, List.set_cons_succ]
        refine wpAnyH_ready (rs := [16]) (by kernel_rfl) (by simp) ?_
        refine AllReadyH.cons (o := { dst := some 44, op := Op.call { callee := Callee.value (Operand.func 14), args := #[Operand.tmp 38, Operand.tmp 39, Operand.tmp 43], argTypes := #[22, 3, 21] }, type := 3, pos := "law.go:69", after := #[{ on := 10, ground := Ground.data }, { on := 11, ground := Ground.data }, { on := 15, ground := Ground.data }, { on := 6, ground := Ground.chain }], guard := none }) rfl (fun K hK => ?_) AllReadyH.nil
        go_simp
        refine ((unhide KR) _ ((k : Int) % 12) c (bthen (unhide HBR) hHeld) (by unfold I64; omega) hrc).mono ?_
        rintro e w2 ⟨rfl, hb2⟩
        go_wp2_with fail
        refine hK.out _ _ ?_ (fun hHeld2 => ?_)
        · exact bthen hHeld hb2
        clear hK K hb2 hHeld
        have hHeld := hHeld2
        clear hHeld2
        try simp only [Act.put, List.setIfInBounds_toArray, List.set_cons_zero, List.set_cons_succ]
        refine wpAnyH_take (i := 17) (oi := { dst := some 45, op := Op.binOp BinOp.neq 3 (Operand.tmp 34) (Operand.tmp 44) 3, type := 4, pos := "law.go:69", after := #[{ on := 6, ground := Ground.data }, { on := 16, ground := Ground.data }], guard := none }) (v := .bool false) rfl (by kernel_rfl) (by kernel_rfl) (by kernel_rfl) (fun _ _ _ h => h) (Or.inl ⟨by rfl, ?_⟩) hHeld ?_
        · intro w hSw
          go_simp
        try simp only [Act.put, List.setIfInBounds_toArray, List.set_cons_zero, List.set_cons_succ]
        refine wpAnyH_done (by kernel_rfl) ?_ _
        have HE := hide (bthen (unhide HBR) hHeld)
        clear hHeld HD HX HBR
        go_wp2_with fail
        go_roundw
        case rel => exact ⟨k + 1, by go_num, by omega, by omega, unhide HE⟩
        case measure => simp [intOf]; omega
    · have BR := bthen (unhide HB) hbr
      have K2 := hide (told_any6 wr ((unhide HG).on BR) ((unhide HS).on BR))
      have HF1 := hide ((unhide HF).below hbr)
      have HBR := hide BR
      clear KX KC KF KR hbr BR
      by_cases hA : k < cs.length
      · have h60 : k = 60 := by omega
        subst h60
        go_wp2_with fail
        refine (unhide K2).mono ?_
        rintro e w3 ⟨rfl, b3⟩
        have B3 := bthen (unhide HBR) b3
        have K3 := hide (family_any f0 w3 ((unhide HG).on B3) (unhide HF0))
        have HF3 := hide ((unhide HF1).below b3)
        have HB3 := hide B3
        clear K2 b3 B3 HBR HF1
        go_wp2_with fail
        refine (unhide K3).mono ?_
        rintro e w4 ⟨rfl, b4⟩
        have B4 := bthen (unhide HB3) b4
        have K4 := hide (refFamily_any f0 w4 (unhide HF0))
        have HF4 := hide ((unhide HF3).below b4)
        have HB4 := hide B4
        clear K3 b4 B4 HB3 HF3
        go_wp2_with fail
        refine (unhide K4).mono ?_
        rintro e w5 ⟨rfl, hw5⟩
        subst hw5
        have K5 := hide (whole_any6 g cap rs ps _ rs0 _ w5 (unhide HF4) ((unhide HL).below (unhide HB4)) (by rw [unhide HNN]; exact hlen) (unhide HPRE))
        clear K4 HF4
        go_wp2_with fail
        refine (unhide K5).mono ?_
        rintro e w6 ⟨rfl, b6⟩
        have HB6 := hide (bthen (unhide HB4) b6)
        clear K5 b6 HB4
        go_wp2
        go_ret
        exact ⟨rfl, unhide HB6⟩
      · have hke : k = cs.length := by omega
        clear hlt
        go_wp2_with fail
        refine (unhide K2).mono ?_
        rintro e w3 ⟨rfl, b3⟩
        have B3 := bthen (unhide HBR) b3
        have K3 := hide (family_any f0 w3 ((unhide HG).on B3) (unhide HF0))
        have HF3 := hide ((unhide HF1).below b3)
        have HB3 := hide B3
        clear K2 b3 B3 HBR HF1
        go_wp2_with fail
        refine (unhide K3).mono ?_
        rintro e w4 ⟨rfl, b4⟩
        have B4 := bthen (unhide HB3) b4
        have K4 := hide (refFamily_any f0 w4 (unhide HF0))
        have HF4 := hide ((unhide HF3).below b4)
        have HB4 := hide B4
        clear K3 b4 B4 HB3 HF3
        go_wp2_with fail
        refine (unhide K4).mono ?_
        rintro e w5 ⟨rfl, hw5⟩
        subst hw5
        have K5 := hide (whole_any6 g cap rs ps _ rs0 _ w5 (unhide HF4) ((unhide HL).below (unhide HB4)) (by rw [unhide HNN]; exact hlen) (unhide HPRE))
        clear K4 HF4
        go_wp2_with fail
        refine (unhide K5).mono ?_
        rintro e w6 ⟨rfl, b6⟩
        have HB6 := hide (bthen (unhide HB4) b6)
        clear K5 b6 HB4
        go_wp2
        go_ret
        exact ⟨rfl, unhide HB6⟩
end Go.Proofs.YtbbmaokeibafkaaGreatDoor
