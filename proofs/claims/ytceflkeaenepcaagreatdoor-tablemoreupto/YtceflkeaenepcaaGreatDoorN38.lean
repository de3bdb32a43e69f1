import Derived.Test.YtceflkeaenepcaaGreatDoorN37
import Derived.Test.YtceflkeaenepcaaGreatDoorN11
import Derived.Test.YtceflkeaenepcaaGreatDoorN34
import Derived.Test.YtceflkeaenepcaaGreatDoorN32
import Derived.Test.YtceflkeaenepcaaGreatDoorN28
namespace Go.Proofs.YtceflkeaenepcaaGreatDoor
open Go.RowKit Go.Shelf
theorem copyC6 (B b : Nat) (bs : List Value) (w : World) (h : Lib.IsBuilder 90 5 B b bs w) : Calls Tryz.prog 50 #[.pointer (some ⟨b, 0, none⟩)] w fun e w' => e = .returned (.tuple #[]) ∧ (Lib.BuilderAt 90 5 B b (.pointer (some ⟨b, 0, none⟩)) bs w' ∧ Below B w w') :=
  Any.Builder_copyCheck { Tryz.lays156 with } Tryz.Builder_Extra_156.toX72 B b bs w h
theorem wstr6 (B b : Nat) (bs : List Value) (s : ByteArray) (w : World) (h : Lib.IsBuilder 90 5 B b bs w) (hlen : bs.length + s.size ≤ 140737488355328) (hBw : B ≤ w.heap.size) :
    Calls Tryz.prog 37 #[.pointer (some ⟨b, 0, none⟩), .string s] w fun e w' => e = .returned (.tuple #[.int .i64 s.size, .nilIface]) ∧ (Lib.BuilderAt 90 5 B b (.pointer (some ⟨b, 0, none⟩)) (bs ++ Lib.strCells s) w' ∧ Below B w w') :=
  Any.Builder_WriteString { Tryz.lays156 with } Tryz.Builder_Extra_156 B b bs s w h hlen hBw
theorem infoB6 : (Tryz.prog.info? 5).map (fun i => (i.zero, i.size, i.bytes)) = some (some (.int .u8 0), 1, 1) := by kernel_rfl
set_option maxRecDepth 20000 in
set_option maxHeartbeats 1000000 in
theorem wbyte6 (B b : Nat) (bs : List Value) (c : Int) (w : World) (h : Lib.IsBuilder 90 5 B b bs w) (hlen : bs.length + 1 ≤ 1000000) (hBw : B ≤ w.heap.size) :
    Calls Tryz.prog 39 #[.pointer (some ⟨b, 0, none⟩), .int .u8 c] w fun e w' => e = .returned .nilIface ∧ (Lib.BuilderAt 90 5 B b (.pointer (some ⟨b, 0, none⟩)) (bs ++ [.int .u8 c]) w' ∧ Below B w w') := by
  obtain ⟨i0, hi, hz0, hz1, hz2⟩ := info_parts infoB6
  have K := hide (copyC6 B b bs w h)
  clear h
  go_enter Tryz.func39, Tryz.ntmps39
  go_wp2_with fail
  refine (unhide K).mono ?_
  rintro e w1 ⟨rfl, ⟨hB, v, hbk, hown, hne⟩, hb1⟩
  have hs1 := hb1.size
  have hlt : b < w1.heap.size := (Array.getElem?_eq_some_iff.1 hbk).1
  have c1 : w1.cell? ⟨b, 1, none⟩ = some v := cell_of (j := 1) hbk (by simp)
  obtain ⟨av, cv, hve⟩ : ∃ a c, v = .slice a bs.length c := by
    rcases hown.2 with ⟨e, h0⟩ | ⟨g, cap, cur, e, _⟩
    · exact ⟨_, _, by rw [e, h0]⟩
    · exact ⟨_, _, e⟩
  subst hve
  obtain ⟨W1, hW1⟩ : ∃ W1, w1.alloc (.cells #[.int .u8 c] 5) = W1 := ⟨_, rfl⟩
  have bW : Below w1.heap.size w1 W1 := by rw [← hW1]; exact (Below.refl _ _).alloc (Nat.le_refl _) _
  have hl : ∀ j u, [Value.int .u8 c][j]? = some u → W1.cell? ((⟨w1.heap.size, 0, none⟩ : Addr).add j) = some u := fun j u hj => by
    rw [addr_add, Nat.zero_add, ← hW1]
    match j, hj with
    | 0, hj => rw [cell_of (j := 0) (heap_new w1 _) (by simp)]; simpa using hj
  have hown1 : W1.ownsRow B 5 1 (.slice av bs.length cv) bs.length bs := by rw [← hW1]; exact hown.alloc _
  have HL := hide hl
  have HO1 := hide hown1
  have hsW : B ≤ W1.heap.size := by have := bW.size; omega
  have HBK : Hid (∀ w2, W1.grownBy w2 (Value.slice av bs.length cv).ownBlock → w2.heap[b]? = some (.cells #[.pointer (some ⟨b, 0, none⟩), .slice av bs.length cv] 90 (0, 0))) := fun w2 hg => by
    rw [hg.block b (by have := bW.size; omega) (fun e => hne e.symm), bW.block b hlt]
    exact hbk
  have HBB : Hid (∀ w2, W1.grownBy w2 (Value.slice av bs.length cv).ownBlock → ∀ x, Below B w (w2.setCell ⟨b, 1, none⟩ x)) := fun w2 hg x => ((hb1.trans (bW.mono (by omega))).grown hg hsW (fun k hk => (hown.lt k hk).1)).setCell (p := ⟨b, 1, none⟩) hB x
  clear K hbk hown hne hb1 bW hl hown1
  go_wp2_with (at_builtin; refine wpList_append_own _ rfl (.tmp 11) (.tmp 13) 88 rfl B 5 i0 (.int .u8 0) 1 1 Tryz.underlying88 hi hz0 hz1 hz2 rfl (by decide) _ _ _ rfl (unhide HO1) ⟨w1.heap.size, 0, none⟩ 1 1 [.int .u8 c] rfl rfl (unhide HL) (fun u hu => by simp at hu; subst hu; rfl) (by unfold maxLen; omega) (by omega) hsW ?_)
  intro v' w2 hown' hgrow _
  have hb2 := (unhide HBK) w2 hgrow
  have d0 : w2.cell? ⟨b, 0, none⟩ = some (.pointer (some ⟨b, 0, none⟩)) := cell_of (j := 0) hb2 (by simp)
  have d1 : w2.cell? ⟨b, 1, none⟩ = some (.slice av bs.length cv) := cell_of (j := 1) hb2 (by simp)
  have f1 : w2.frozen? ⟨b, 1, none⟩ = false := frozen_of (j := 1) hb2
  obtain ⟨g, cap, rfl⟩ : ∃ g cap, v' = .slice (some ⟨g, 0, none⟩) (bs.length + 1) cap := by
    rcases hown'.2 with ⟨_, h0⟩ | ⟨g, cap, cur, hv, _⟩
    · omega
    · exact ⟨g, cap, hv⟩
  have hF := Lib.BuilderAt.put (T := 90) (e := 5) hB hb2 (bs' := bs ++ [.int .u8 c]) (by simpa using hown') (by decide)
  have HF := hide hF
  have HB2 := hide ((unhide HBB) w2 hgrow (.slice (some ⟨g, 0, none⟩) (bs.length + 1) cap))
  clear HO1 HL HBK HBB hown' hgrow hb2 hF c1
  go_wp2
  go_ret
  exact ⟨rfl, by simpa using unhide HF, unhide HB2⟩
end Go.Proofs.YtceflkeaenepcaaGreatDoor
namespace Go.Proofs.YtceflkeaenepcaaGreatDoor
open Go.RowKit Go.Shelf
abbrev Ln6 (w : World) (us : List Value) (e : Ending) (w' : World) : Prop := ∃ v, e = .returned v ∧ Ow 9 w' w.heap.size v us ∧ Below w.heap.size w w'
theorem ow_sv6 {w : World} {B : Nat} {v : Value} {us : List Value} (h : Ow 9 w B v us) : Sv w v us := h.sv
set_option maxRecDepth 20000 in
set_option maxHeartbeats 4000000 in
theorem line_a (kk : Nat) (ty : TypeId) (hsh : shape kk = .iface ty (.agg #[.int .i64 kk])) (hkk : kk ≤ 100) (lo hi n : Int) (ta : Option Addr) (tl tc : Nat) (wt : Nat) (us1 us2 us3 : List Value) (ts : List ByteArray) (hts : us1 ++ us2 ++ us3 = ts.map Value.string) (h0 : 0 < ts.length) (h9 : ts.length ≤ 100)
    (hlen : (Lib.join (ts.map (·.data.toList)) [32]).length ≤ 1000000)
    (m1 : ∀ w, (method 543 ty (.agg #[.int .i64 kk]) "endonym/table.lead").run Tryz.prog w = .ok (120, .agg #[.int .i64 kk]) w) (m2 : ∀ w, (method 543 ty (.agg #[.int .i64 kk]) "endonym/table.rest").run Tryz.prog w = .ok (124, .agg #[.int .i64 kk]) w) (w : World)
    (KL : ∀ W, Below w.heap.size w W → Calls Tryz.prog 120 #[.agg #[.int .i64 kk], .agg #[.int .i64 kk, .int .i64 lo, .int .i64 hi, .int .i64 n, .slice ta tl tc, .string ⟨#[]⟩, .string ⟨#[]⟩, .float .f64 wt]] W (Ln6 W us1))
    (KT : ∀ W, Below w.heap.size w W → Calls Tryz.prog 53 #[.slice ta tl tc] W (Ln6 W us2))
    (KR : ∀ W, Below w.heap.size w W → Calls Tryz.prog 124 #[.agg #[.int .i64 kk], .agg #[.int .i64 kk, .int .i64 lo, .int .i64 hi, .int .i64 n, .slice ta tl tc, .string ⟨#[]⟩, .string ⟨#[]⟩, .float .f64 wt]] W (Ln6 W us3)) :
    Calls Tryz.prog 38 #[.agg #[.int .i64 kk, .int .i64 lo, .int .i64 hi, .int .i64 n, .slice ta tl tc, .string ⟨#[]⟩, .string ⟨#[]⟩, .float .f64 wt]] w fun e w' => e = .returned (.string ⟨(Lib.join (ts.map (·.data.toList)) [32]).toArray⟩) ∧ Below w.heap.size w w' := by
  obtain ⟨w0, hw0⟩ : ∃ w0, w.alloc (.cells #[.int .i64 kk, .int .i64 lo, .int .i64 hi, .int .i64 n, .slice ta tl tc, .string ⟨#[]⟩, .string ⟨#[]⟩, .float .f64 wt] 29) = w0 := ⟨_, rfl⟩
  have b0 : Below w.heap.size w w0 := by rw [← hw0]; exact (Below.refl _ _).alloc (Nat.le_refl _) _
  have hb0 := heap_new w (.cells #[.int .i64 kk, .int .i64 lo, .int .i64 hi, .int .i64 n, .slice ta tl tc, .string ⟨#[]⟩, .string ⟨#[]⟩, .float .f64 wt] 29)
  rw [hw0] at hb0
  have x0 : w0.cell? ⟨w.heap.size, 0, none⟩ = some (.int .i64 kk) := cell_of (j := 0) hb0 (by simp)
  have KS := hide (shapeOf_any kk w0 (by unfold I64; omega))
  rw [hsh] at KS
  have HKL := hide KL
  have HKT := hide KT
  have HKR := hide KR
  have HTS := hide hts
  have HLN := hide hlen
  have HB0 := hide b0
  have HHB := hide hb0
  clear KL KT KR hts hlen b0 hb0 hsh
  go_enter Tryz.func38, Tryz.ntmps38
  go_wp2_with fail
  refine (unhide KS).mono ?_
  rintro e w1 ⟨rfl, b1⟩
  have HX : Hid (∀ W, Below w1.heap.size w1 W → W.cell? ⟨w.heap.size, 0, none⟩ = some (.int .i64 kk) ∧ W.cell? ⟨w.heap.size, 1, none⟩ = some (.int .i64 lo) ∧ W.cell? ⟨w.heap.size, 2, none⟩ = some (.int .i64 hi) ∧ W.cell? ⟨w.heap.size, 3, none⟩ = some (.int .i64 n) ∧ W.cell? ⟨w.heap.size, 4, none⟩ = some (.slice ta tl tc) ∧ W.cell? ⟨w.heap.size, 5, none⟩ = some (.string ⟨#[]⟩) ∧ W.cell? ⟨w.heap.size, 6, none⟩ = some (.string ⟨#[]⟩) ∧ W.cell? ⟨w.heap.size, 7, none⟩ = some (.float .f64 wt)) := fun W hW => by
    have hb := (bthen b1 hW)
    have e := (hb.block _ (Array.getElem?_eq_some_iff.1 (unhide HHB)).1).trans (unhide HHB)
    exact ⟨cell_of (j := 0) e (by simp), cell_of (j := 1) e (by simp), cell_of (j := 2) e (by simp), cell_of (j := 3) e (by simp), cell_of (j := 4) e (by simp), cell_of (j := 5) e (by simp), cell_of (j := 6) e (by simp), cell_of (j := 7) e (by simp)⟩
  have HBW : Hid (∀ W, Below w1.heap.size w1 W → Below w.heap.size w W) := fun W hW => bthen (unhide HB0) (bthen b1 hW)
  have S0 : Hid (Below w1.heap.size w1 w1.drew) := drewB ⟨1, rfl⟩
  clear KS b1 HB0 HHB x0 hw0
  go_wp2
  refine wp_region_held_drew (S := fun w' => Below w1.heap.size w1 w') (by kernel_rfl) (unhide S0) (fun hHeld => ?_)
  refine wpAnyH_take (i := 0) (oi := { dst := some 7, op := Op.move (Operand.tmp 3), type := 49, pos := "write.go:24", after := #[], guard := none }) (v := .iface ty (.agg #[.int .i64 kk])) rfl (by kernel_rfl) (by kernel_rfl) (by kernel_rfl) (fun _ _ _ h => h) (Or.inl ⟨by rfl, ?_⟩) hHeld ?_
  · intro _ hSw
    go_simp
  try simp only [Act.put, List.setIfInBounds_toArray, List.set_cons_zero, List.set_cons_succ]
  refine wpAnyH_take (i := 1) (oi := { dst := some 8, op := Op.load 29 (Operand.tmp 1), type := 29, pos := "write.go:24", after := #[], guard := none }) (v := .agg #[.int .i64 kk, .int .i64 lo, .int .i64 hi, .int .i64 n, .slice ta tl tc, .string ⟨#[]⟩, .string ⟨#[]⟩, .float .f64 wt]) rfl (by kernel_rfl) (by kernel_rfl) (by kernel_rfl) (fun _ _ _ h => h) (Or.inl ⟨by rfl, ?_⟩) hHeld ?_
  · intro _ hSw
    obtain ⟨y0, y1, y2, y3, y4, y5, y6, y7⟩ := (unhide HX) _ hSw; go_simp
  try simp only [Act.put, List.setIfInBounds_toArray, List.set_cons_zero, List.set_cons_succ]
  refine wpAnyH_take (i := 3) (oi := { dst := some 10, op := Op.fieldAddr 29 (Operand.tmp 1) 4, type := 0, pos := "write.go:24", after := #[], guard := none }) (v := .pointer (some ⟨w.heap.size, 4, none⟩)) rfl (by kernel_rfl) (by kernel_rfl) (by kernel_rfl) (fun _ _ _ h => h) (Or.inl ⟨by rfl, ?_⟩) hHeld ?_
  · intro _ hSw
    go_simp
  try simp only [Act.put, List.setIfInBounds_toArray, List.set_cons_zero, List.set_cons_succ]
  refine wpAnyH_take (i := 4) (oi := { dst := some 11, op := Op.load 26 (Operand.tmp 10), type := 26, pos := "write.go:24", after := #[{ on := 3, ground := Ground.data }], guard := none }) (v := .slice ta tl tc) rfl (by kernel_rfl) (by kernel_rfl) (by kernel_rfl) (fun _ _ _ h => h) (Or.inl ⟨by rfl, ?_⟩) hHeld ?_
  · intro _ hSw
    obtain ⟨y0, y1, y2, y3, y4, y5, y6, y7⟩ := (unhide HX) _ hSw; go_simp
  try simp only [Act.put, List.setIfInBounds_toArray, List.set_cons_zero, List.set_cons_succ]
  refine wpAnyH_take (i := 6) (oi := { dst := some 13, op := Op.move (Operand.tmp 3), type := 49, pos := "write.go:24", after := #[], guard := none }) (v := .iface ty (.agg #[.int .i64 kk])) rfl (by kernel_rfl) (by kernel_rfl) (by kernel_rfl) (fun _ _ _ h => h) (Or.inl ⟨by rfl, ?_⟩) hHeld ?_
  · intro _ hSw
    go_simp
  try simp only [Act.put, List.setIfInBounds_toArray, List.set_cons_zero, List.set_cons_succ]
  refine wpAnyH_take (i := 7) (oi := { dst := some 14, op := Op.load 29 (Operand.tmp 1), type := 29, pos := "write.go:24", after := #[], guard := none }) (v := .agg #[.int .i64 kk, .int .i64 lo, .int .i64 hi, .int .i64 n, .slice ta tl tc, .string ⟨#[]⟩, .string ⟨#[]⟩, .float .f64 wt]) rfl (by kernel_rfl) (by kernel_rfl) (by kernel_rfl) (fun _ _ _ h => h) (Or.inl ⟨by rfl, ?_⟩) hHeld ?_
  · intro _ hSw
    obtain ⟨y0, y1, y2, y3, y4, y5, y6, y7⟩ := (unhide HX) _ hSw; go_simp
  try simp only [Act.put, List.setIfInBounds_toArray, List.set_cons_zero, List.set_cons_succ]
  refine wpAnyH_ready (rs := [2]) (by kernel_rfl) (by simp) ?_
  refine AllReadyH.cons (o := { dst := some 9, op := Op.call { callee := Callee.invoke (Operand.tmp 7) "endonym/table.lead", args := #[Operand.tmp 8], argTypes := #[29] }, type := 54, pos := "write.go:24", after := #[{ on := 0, ground := Ground.data }, { on := 1, ground := Ground.data }], guard := none }) rfl (fun K hK => ?_) AllReadyH.nil
  go_simp
  refine ((unhide HKL) _ ((unhide HBW) _ hHeld)).mono ?_
  rintro e w3 ⟨v3, rfl, o3, b3⟩
  refine hK.out _ _ ?_ (fun hHeld => ?_)
  · exact bthen hHeld b3
  clear hK K
  try simp only [Act.put, List.setIfInBounds_toArray, List.set_cons_zero, List.set_cons_succ]
  have HO3 := hide o3
  clear o3 b3
  refine wpAnyH_ready (rs := [5]) (by kernel_rfl) (by simp) ?_
  refine AllReadyH.cons (o := { dst := some 12, op := Op.call { callee := Callee.value (Operand.func 53), args := #[Operand.tmp 11], argTypes := #[26] }, type := 54, pos := "write.go:24", after := #[{ on := 4, ground := Ground.data }, { on := 2, ground := Ground.chain }], guard := none }) rfl (fun K hK => ?_) AllReadyH.nil
  go_simp
  refine ((unhide HKT) _ ((unhide HBW) _ hHeld)).mono ?_
  rintro e w4 ⟨v4, rfl, o4, b4⟩
  have HO34 := hide ((unhide HO3).below b4)
  refine hK.out _ _ ?_ (fun hHeld => ?_)
  · exact bthen hHeld b4
  clear hK K
  try simp only [Act.put, List.setIfInBounds_toArray, List.set_cons_zero, List.set_cons_succ]
  have HO4 := hide o4
  clear o4 b4 HO3
  refine wpAnyH_ready (rs := [8]) (by kernel_rfl) (by simp) ?_
  refine AllReadyH.cons (o := { dst := some 15, op := Op.call { callee := Callee.invoke (Operand.tmp 13) "endonym/table.rest", args := #[Operand.tmp 14], argTypes := #[29] }, type := 54, pos := "write.go:24", after := #[{ on := 6, ground := Ground.data }, { on := 7, ground := Ground.data }, { on := 5, ground := Ground.chain }], guard := none }) rfl (fun K hK => ?_) AllReadyH.nil
  go_simp
  refine ((unhide HKR) _ ((unhide HBW) _ hHeld)).mono ?_
  rintro e w5 ⟨v5, rfl, o5, b5⟩
  have HO35 := hide ((unhide HO34).below b5)
  have HO45 := hide ((unhide HO4).below b5)
  refine hK.out _ _ ?_ (fun hHeld => ?_)
  · exact bthen hHeld b5
  clear hK K
  try simp only [Act.put, List.setIfInBounds_toArray, List.set_cons_zero, List.set_cons_succ]
  have HO5 := hide o5
  clear o5 b5 HO34 HO4
  have hS5 := (unhide HBW) _ hHeld
  obtain ⟨W6, hW6⟩ : ∃ W6, w5.alloc (.cells #[v3, v4, v5] 54) = W6 := ⟨_, rfl⟩
  have b6 : Below w5.heap.size w5 W6 := by rw [← hW6]; exact (Below.refl _ _).alloc (Nat.le_refl _) _
  have h6 := heap_new w5 (.cells #[v3, v4, v5] 54)
  rw [hW6] at h6
  have hPs : Ps6 W6 w5.heap.size 0 3 [us1, us2, us3] := ⟨by simp, by omega, fun i hi => by
    match i, hi with
    | 0, _ => exact ⟨v3, cell_of (j := 0) h6 (by simp), ((unhide HO35).below b6).sv⟩
    | 1, _ => exact ⟨v4, cell_of (j := 1) h6 (by simp), ((unhide HO45).below b6).sv⟩
    | 2, _ => exact ⟨v5, cell_of (j := 2) h6 (by simp), ((unhide HO5).below b6).sv⟩⟩
  have hfl : [us1, us2, us3].flatten = ts.map Value.string := by rw [← unhide HTS]; simp
  have KC := hide (concat6 w5.heap.size 0 3 [us1, us2, us3] W6 hPs (by simp) (by rw [hfl, List.length_map]; omega) (by rw [hfl, List.length_map]; omega) (fun u hu => by rw [hfl] at hu; obtain ⟨t, _, rfl⟩ := List.mem_map.1 hu; rfl))
  rw [hfl] at KC
  have HW6 := hide hW6
  have HB6 := hide b6
  obtain ⟨ao3, cp3, hv3, _, _⟩ := (unhide HO35).sv.shape
  obtain ⟨ao4, cp4, hv4, _, _⟩ := (unhide HO45).sv.shape
  obtain ⟨ao5, cp5, hv5, _, _⟩ := (unhide HO5).sv.shape
  clear hPs h6 hfl b6 hS5 HO35 HO45 HO5
  subst hv3 hv4 hv5
  refine wpAnyH_ready (rs := [9]) (by kernel_rfl) (by simp) ?_
  refine AllReadyH.cons (o := { dst := some 16, op := Op.buildSlice 130 3 #[(0, Operand.tmp 9), (1, Operand.tmp 12), (2, Operand.tmp 15)], type := 130, pos := "write.go:24", after := #[{ on := 2, ground := Ground.data }, { on := 5, ground := Ground.data }, { on := 8, ground := Ground.data }], guard := none }) rfl (fun K hK => ?_) AllReadyH.nil
  go_simp
  refine hK.out _ _ ?_ (fun hHeld => ?_)
  · exact bthen hHeld (unhide HB6)
  clear hK K
  try simp only [Act.put, List.setIfInBounds_toArray, List.set_cons_zero, List.set_cons_succ]
  refine wpAnyH_ready (rs := [10]) (by kernel_rfl) (by simp) ?_
  refine AllReadyH.cons (o := { dst := some 17, op := Op.call { callee := Callee.value (Operand.func 52), args := #[Operand.tmp 16], argTypes := #[130] }, type := 54, pos := "write.go:24", after := #[{ on := 9, ground := Ground.data }, { on := 8, ground := Ground.chain }], guard := none }) rfl (fun K hK => ?_) AllReadyH.nil
  go_simp
  simp only [List.length_cons, List.length_nil, Nat.reduceAdd] at KC
  refine (unhide KC).mono ?_
  rintro e w7 ⟨v7, rfl, o7, b7⟩
  refine hK.out _ _ ?_ (fun hHeld => ?_)
  · exact bthen hHeld b7
  clear hK K
  try simp only [Act.put, List.setIfInBounds_toArray, List.set_cons_zero, List.set_cons_succ]
  obtain ⟨g7, c7, hv7, hc7, _⟩ := ow_shape6 o7 (by rw [List.length_map]; exact h0)
  rw [List.length_map] at hv7 hc7
  have hcl : ∀ (j : Nat) x, ts[j]? = some x → w7.cell? ⟨g7, 0 + j, none⟩ = some (.string x) := fun j x hx => by
    have e := o7.2.cells (g := g7) (by rw [hv7]; rfl) j (.string x) (by rw [List.getElem?_map, hx]; rfl)
    rw [addr_add] at e
    exact e
  have hg7 : g7 < w7.heap.size := (o7.2.lt g7 (by rw [hv7]; rfl)).2
  have KJ := hide (Tryz.strings_Join g7 0 c7 ts ⟨#[32]⟩ w7 hcl hg7 (by omega) hc7 (by have := unhide HLN; exact Nat.le_trans this (by decide)))
  subst hv7
  clear o7 hcl b7 KC
  refine wpAnyH_ready (rs := [11]) (by kernel_rfl) (by simp) ?_
  refine AllReadyH.cons (o := { dst := some 18, op := Op.call { callee := Callee.value (Operand.func 51), args := #[Operand.tmp 17, Operand.const (Value.string { data := #[32] })], argTypes := #[54, 9] }, type := 9, pos := "write.go:24", after := #[{ on := 10, ground := Ground.data }, { on := 10, ground := Ground.chain }], guard := none }) rfl (fun K hK => ?_) AllReadyH.nil
  go_simp
  refine (unhide KJ).mono ?_
  rintro e w8 ⟨rfl, b8⟩
  refine hK.out _ _ ?_ (fun hHeld => ?_)
  · exact bthen hHeld b8
  clear hK K
  have HF := hide ((unhide HBW) _ hHeld)
  obtain ⟨rs, hrs⟩ : ∃ rs : ByteArray, (⟨(Lib.join (ts.map (·.data.toList)) [32]).toArray⟩ : ByteArray) = rs := ⟨_, rfl⟩
  refine wpAnyH_take (i := 12) (oi := { dst := some 2, op := Op.assign (Operand.tmp 18), type := 9, pos := "write.go:24", after := #[{ on := 11, ground := Ground.data }, { on := 11, ground := Ground.chain }, { on := 0, ground := Ground.phase }, { on := 1, ground := Ground.phase }, { on := 2, ground := Ground.phase }, { on := 3, ground := Ground.phase }, { on := 4, ground := Ground.phase }, { on := 5, ground := Ground.phase }, { on := 6, ground := Ground.phase }, { on := 7, ground := Ground.phase }, { on := 8, ground := Ground.phase }, { on := 9, ground := Ground.phase }, { on := 10, ground := Ground.phase }, { on := 11, ground := Ground.phase }], guard := none }) (v := .string ⟨(Lib.join (ts.map (·.data.toList)) [32]).toArray⟩) rfl (by kernel_rfl) (by kernel_rfl) (by kernel_rfl) (fun _ _ _ h => h) (Or.inl ⟨by rfl, ?_⟩) hHeld ?_
  · intro _ hSw
    go_simp
  try simp only [Act.put, List.setIfInBounds_toArray, List.set_cons_zero, List.set_cons_succ]
  refine wpAnyH_done (by kernel_rfl) ?_ _
  go_wp2
  go_ret
  exact ⟨rfl, unhide HF⟩
end Go.Proofs.YtceflkeaenepcaaGreatDoor
namespace Go.Proofs.YtceflkeaenepcaaGreatDoor
open Go.RowKit Go.Shelf
theorem mLeadShifted (w : World) : (method 543 75 (.agg #[.int .i64 ((4 : Nat) : Int)]) "endonym/table.lead").run Tryz.prog w = .ok (120, .agg #[.int .i64 ((4 : Nat) : Int)]) w := by kernel_rfl
theorem mRestShifted (w : World) : (method 543 75 (.agg #[.int .i64 ((4 : Nat) : Int)]) "endonym/table.rest").run Tryz.prog w = .ok (124, .agg #[.int .i64 ((4 : Nat) : Int)]) w := by kernel_rfl
theorem mLeadSpanned (w : World) : (method 543 73 (.agg #[.int .i64 ((14 : Nat) : Int)]) "endonym/table.lead").run Tryz.prog w = .ok (120, .agg #[.int .i64 ((14 : Nat) : Int)]) w := by kernel_rfl
theorem mRestSpanned (w : World) : (method 543 73 (.agg #[.int .i64 ((14 : Nat) : Int)]) "endonym/table.rest").run Tryz.prog w = .ok (124, .agg #[.int .i64 ((14 : Nat) : Int)]) w := by kernel_rfl
theorem join_shift6 : Lib.join (([Cn.txt "shift", ⟨#[52, 49, 46, 46, 53, 65]⟩, ⟨#[54, 49]⟩, ⟨#[49]⟩] : List ByteArray).map (·.data.toList)) [32] = [115, 104, 105, 102, 116, 32, 52, 49, 46, 46, 53, 65, 32, 54, 49, 32, 49] := by decide +kernel
theorem join_weight6 : Lib.join (([Cn.txt "weight", ⟨#[52, 49]⟩, ⟨#[50, 53, 101, 45, 50]⟩] : List ByteArray).map (·.data.toList)) [32] = [119, 101, 105, 103, 104, 116, 32, 52, 49, 32, 50, 53, 101, 45, 50] := by decide +kernel
theorem line_shift6 (ta : Option Addr) (tl tc : Nat) (wt : Nat) (w : World) (hg : Glob w) (hs : Sn.Glob w) (ht : Sk .i32 w (.slice ta tl tc) [97]) :
    Calls Tryz.prog 38 #[.agg #[.int .i64 4, .int .i64 65, .int .i64 90, .int .i64 1, .slice ta tl tc, .string ⟨#[]⟩, .string ⟨#[]⟩, .float .f64 wt]] w fun e w' => e = .returned (.string ⟨#[115, 104, 105, 102, 116, 32, 52, 49, 46, 46, 53, 65, 32, 54, 49, 32, 49]⟩) ∧ Below w.heap.size w w' := by
  have h := line_a 4 75 (by kernel_rfl) (by omega) 65 90 1 ta tl tc wt [.string (Cn.txt "shift"), .string ⟨#[52, 49, 46, 46, 53, 65]⟩] [.string ⟨#[54, 49]⟩] [.string ⟨#[49]⟩] [Cn.txt "shift", ⟨#[52, 49, 46, 46, 53, 65]⟩, ⟨#[54, 49]⟩, ⟨#[49]⟩] rfl (by decide) (by decide) (by rw [join_shift6]; decide) mLeadShifted mRestShifted w
    (fun W hW => by
      refine (lead_a 4 65 90 1 _ ⟨#[]⟩ ⟨#[]⟩ wt (by unfold I64; omega) (by omega) (by omega) W (hg.on hW) (hs.on hW)).mono ?_
      rintro e w' ⟨v, t, hn, rfl, ho, hb⟩
      obtain rfl : t = ⟨#[52, 49, 46, 46, 53, 65]⟩ := nums_inj (hn.trans (by decide +kernel))
      exact ⟨v, rfl, ho, hb⟩)
    (fun W hW => by
      refine (targets_one6 _ 97 W (ht.below hW) (hs.on hW)).mono ?_
      rintro e w' ⟨t, g, hn, rfl, ho, hb⟩
      obtain rfl : t = ⟨#[54, 49]⟩ := nums_inj (hn.trans (by decide +kernel))
      exact ⟨_, rfl, ho, hb⟩)
    (fun W hW => by
      refine (rest_4 65 90 _ wt W (hg.on hW) (hs.on hW)).mono ?_
      rintro e w' ⟨v, t, hn, rfl, ho, hb⟩
      obtain rfl : t = ⟨#[49]⟩ := nums_inj (hn.trans (by decide +kernel))
      exact ⟨v, rfl, ho, hb⟩)
  rw [join_shift6] at h
  exact h
theorem line_weight6 (ta : Option Addr) (tl tc : Nat) (w : World) (hg : Glob w) (hs : Sn.Glob w) (ht : Sk .i32 w (.slice ta tl tc) []) :
    Calls Tryz.prog 38 #[.agg #[.int .i64 14, .int .i64 65, .int .i64 65, .int .i64 0, .slice ta tl tc, .string ⟨#[]⟩, .string ⟨#[]⟩, .float .f64 4598175219545276416]] w fun e w' => e = .returned (.string ⟨#[119, 101, 105, 103, 104, 116, 32, 52, 49, 32, 50, 53, 101, 45, 50]⟩) ∧ Below w.heap.size w w' := by
  have h := line_a 14 73 (by kernel_rfl) (by omega) 65 65 0 ta tl tc 4598175219545276416 [.string (Cn.txt "weight"), .string ⟨#[52, 49]⟩] [] [.string ⟨#[50, 53, 101, 45, 50]⟩] [Cn.txt "weight", ⟨#[52, 49]⟩, ⟨#[50, 53, 101, 45, 50]⟩] rfl (by decide) (by decide) (by rw [join_weight6]; decide) mLeadSpanned mRestSpanned w
    (fun W hW => by
      refine (lead_a 14 65 65 0 _ ⟨#[]⟩ ⟨#[]⟩ _ (by unfold I64; omega) (by omega) (by omega) W (hg.on hW) (hs.on hW)).mono ?_
      rintro e w' ⟨v, t, hn, rfl, ho, hb⟩
      obtain rfl : t = ⟨#[52, 49]⟩ := nums_inj (hn.trans (by decide +kernel))
      exact ⟨v, rfl, ho, hb⟩)
    (fun W hW => by
      refine (targets_nil6 _ W (ht.below hW)).mono ?_
      rintro e w' ⟨rfl, rfl⟩
      exact ⟨_, rfl, ⟨by simp, rfl, .inr ⟨_, 0, _, rfl, Nat.le_refl _, heap_new W _, Nat.le_refl _, by unfold maxLen; omega, rfl, rfl⟩⟩, (Below.refl _ _).alloc (Nat.le_refl _) _⟩)
    (fun W hW => by
      refine (rest_14 65 65 _ W (hg.on hW) (hs.on hW)).mono ?_
      rintro e w' ⟨v, rfl, ho, hb⟩
      exact ⟨v, rfl, ho, hb⟩)
  rw [join_weight6] at h
  exact h
end Go.Proofs.YtceflkeaenepcaaGreatDoor
namespace Go.Proofs.YtceflkeaenepcaaGreatDoor
open Go.RowKit Go.Shelf
theorem bat_below6 {T e : TypeId} {B b : Nat} {p : Value} {bs : List Value} {w w' : World} (h : Lib.BuilderAt T e B b p bs w) (hb : Below w.heap.size w w') : Lib.BuilderAt T e B b p bs w' := by
  obtain ⟨hB, v, hbk, hown, hne⟩ := h
  exact ⟨hB, v, (hb.block _ (Array.getElem?_eq_some_iff.1 hbk).1).trans hbk, own_keep hown fun g hg => hb.block g (hown.lt g hg).2, hne⟩
theorem isb_below6 {T e : TypeId} {B b : Nat} {bs : List Value} {w w' : World} (h : Lib.IsBuilder T e B b bs w) (hb : Below w.heap.size w w') : Lib.IsBuilder T e B b bs w' := h.elim (fun h => .inl (bat_below6 h hb)) (fun h => .inr (bat_below6 h hb))
def ltx6 (k : Nat) : List UInt8 := [[115, 104, 105, 102, 116, 32, 52, 49, 46, 46, 53, 65, 32, 54, 49, 32, 49], [119, 101, 105, 103, 104, 116, 32, 52, 49, 32, 50, 53, 101, 45, 50]].getD k []
def upto6 (k : Nat) : List UInt8 := ((List.range k).map fun i => ltx6 i ++ [10]).flatten
theorem upto_step6 (k : Nat) : upto6 (k + 1) = upto6 k ++ ltx6 k ++ [10] := by
  unfold upto6
  rw [List.range_succ, List.map_append, List.flatten_append]
  simp
set_option maxRecDepth 20000 in
set_option maxHeartbeats 4000000 in
theorem lines_told6 (v : Value) (ps : List (Rec × Value)) (B : Nat) (w : World) (hR : Rown w B v ps) (hp : ps.map (·.1) = recsT) (hg : Glob w) (hs : Sn.Glob w) : Calls Tryz.prog 26 #[v] w fun e w' => e = .returned (.string ⟨(upto6 2).toArray⟩) ∧ Below w.heap.size w w' := by
  have hl : ps.length = 2 := by have := congrArg List.length hp; rwa [List.length_map] at this
  obtain ⟨g, cap, hv, hcap⟩ : ∃ g cap, v = .slice (some ⟨g, 0, none⟩) ps.length cap ∧ 2 ≤ cap ∧ cap ≤ 9223372036854775807 := by
    rcases hR.1.2 with ⟨_, h0⟩ | ⟨g, cap, cur, e, _, _, h3, h4, _⟩
    · omega
    · unfold maxLen at h4
      exact ⟨g, cap, e, by omega, by omega⟩
  subst hv
  have HC : Hid (∀ W, Below w.heap.size w W → ∀ k, k < 2 → ∃ (r : Rec) (ao : Option Addr) (len cp : Nat), ps[k]? = some (r, .slice ao len cp) ∧ W.cell? ⟨g, k * 8, none⟩ = some (.int .i64 r.kind) ∧ W.cell? ⟨g, k * 8 + 1, none⟩ = some (.int .i64 r.lo) ∧ W.cell? ⟨g, k * 8 + 2, none⟩ = some (.int .i64 r.hi) ∧ W.cell? ⟨g, k * 8 + 3, none⟩ = some (.int .i64 r.n) ∧ W.cell? ⟨g, k * 8 + 4, none⟩ = some (.slice ao len cp) ∧ W.cell? ⟨g, k * 8 + 5, none⟩ = some (.string r.name) ∧ W.cell? ⟨g, k * 8 + 6, none⟩ = some (.string r.other) ∧ W.cell? ⟨g, k * 8 + 7, none⟩ = some (.float .f64 r.wt)) := fun W hW k hk => by
    obtain ⟨r, ao, len, cp, e, q0, q1, q2, q3, q4, q5, q6, q7, _⟩ := (hR.on7 hW).cells8 (i := k) (by omega)
    exact ⟨r, ao, len, cp, by rw [List.getElem?_eq_getElem (by omega), e], q0, q1, q2, q3, q4, q5, q6, q7⟩
  have HL : Hid (∀ k, k < 2 → ∀ r ao len cp, ps[k]? = some (r, .slice ao len cp) → ∀ W, Below w.heap.size w W → Calls Tryz.prog 38 #[.agg #[.int .i64 r.kind, .int .i64 r.lo, .int .i64 r.hi, .int .i64 r.n, .slice ao len cp, .string r.name, .string r.other, .float .f64 r.wt]] W fun e w' => e = .returned (.string ⟨(ltx6 k).toArray⟩) ∧ Below W.heap.size W w') := fun k hk r ao len cp he W hW => by
    have hr : recsT[k]? = some r := by rw [← hp, List.getElem?_map, he]; rfl
    have hok := (hR.2 _ (List.mem_of_getElem? he)).sk.below hW
    obtain rfl | rfl : k = 0 ∨ k = 1 := by omega
    · simp only [recsT, List.getElem?_cons_zero, Option.some.injEq] at hr
      subst hr
      exact line_shift6 ao len cp 0 W (hg.on hW) (hs.on hW) hok
    · simp only [recsT, List.getElem?_cons_succ, List.getElem?_cons_zero, Option.some.injEq] at hr
      subst hr
      exact line_weight6 ao len cp W (hg.on hW) (hs.on hW) hok
  rw [hl]
  have HIB := hide (Lib.fresh_isBuilder 90 5 w)
  have HB0 : Hid (Below w.heap.size w (w.alloc (.cells #[.pointer none, .slice none 0 0] 90))) := (Below.refl _ _).alloc (Nat.le_refl _) _
  have HUS := hide upto_step6
  have HU0 : Hid (Lib.byteCells (upto6 0) = []) := rfl
  have HLL : Hid (∀ k, k < 2 → (ltx6 k).length ≤ 100) := fun k hk => by
    obtain rfl | rfl : k = 0 ∨ k = 1 := by omega
    · decide
    · decide
  have HUL : Hid (∀ k, k ≤ 2 → (upto6 k).length ≤ 1000) := fun k hk => by
    obtain rfl | rfl | rfl : k = 0 ∨ k = 1 ∨ k = 2 := by omega
    all_goals decide
  obtain ⟨hc1, hc2⟩ := hcap
  clear hR hp hg hs
  go_enter Tryz.func26, Tryz.ntmps26
  go_wp2
  go_loopw [5, 8] (fun _ i wr => ∃ k : Nat, i = .int .i64 k ∧ k ≤ 2 ∧ Lib.IsBuilder 90 5 w.heap.size w.heap.size (Lib.byteCells (upto6 k)) wr ∧ Below w.heap.size w wr) (fun _ i _ => 2 - (intOf i).toNat)
  case atStart => exact ⟨0, rfl, by omega, by rw [unhide HU0]; exact unhide HIB, unhide HB0⟩
  case round =>
    clear HIB HB0 HU0
    obtain ⟨k, rfl, hk, hib, hb⟩ := hrel
    have hs0 := hb.size
    by_cases hlt : k < 2
    · obtain ⟨r, ao, len, cp, he, q0, q1, q2, q3, q4, q5, q6, q7⟩ := (unhide HC) wr hb k hlt
      obtain ⟨W1, hW1⟩ : ∃ W1, wr.alloc (.cells #[.int .i64 r.kind, .int .i64 r.lo, .int .i64 r.hi, .int .i64 r.n, .slice ao len cp, .string r.name, .string r.other, .float .f64 r.wt] 29) = W1 := ⟨_, rfl⟩
      have b1 : Below wr.heap.size wr W1 := by rw [← hW1]; exact (Below.refl _ _).alloc (Nat.le_refl _) _
      have K := hide ((unhide HL) k hlt r ao len cp he W1 (bthen hb b1))
      have HI1 := hide (isb_below6 hib b1)
      have HB1 := hide (bthen hb b1)
      have hul := (unhide HUL) k (by omega)
      have hll := (unhide HLL) k hlt
      have HST := hide ((unhide HUS) k)
      have hfl : ∀ W a m, (store a (.float .f64 r.wt) m).run Tryz.prog W = stored Tryz.prog W a (.float .f64 r.wt) m := fun W a m => run_store Tryz.prog W a _ m rfl
      have z := heap_new wr (.cells #[.int .i64 r.kind, .int .i64 r.lo, .int .i64 r.hi, .int .i64 r.n, .slice ao len cp, .string r.name, .string r.other, .float .f64 r.wt] 29)
      rw [hW1] at z
      have z0 : W1.cell? ⟨wr.heap.size, 0, none⟩ = some (.int .i64 r.kind) := cell_of (j := 0) z (by simp)
      have z1 : W1.cell? ⟨wr.heap.size, 1, none⟩ = some (.int .i64 r.lo) := cell_of (j := 1) z (by simp)
      have z2 : W1.cell? ⟨wr.heap.size, 2, none⟩ = some (.int .i64 r.hi) := cell_of (j := 2) z (by simp)
      have z3 : W1.cell? ⟨wr.heap.size, 3, none⟩ = some (.int .i64 r.n) := cell_of (j := 3) z (by simp)
      have z4 : W1.cell? ⟨wr.heap.size, 4, none⟩ = some (.slice ao len cp) := cell_of (j := 4) z (by simp)
      have z5 : W1.cell? ⟨wr.heap.size, 5, none⟩ = some (.string r.name) := cell_of (j := 5) z (by simp)
      have z6 : W1.cell? ⟨wr.heap.size, 6, none⟩ = some (.string r.other) := cell_of (j := 6) z (by simp)
      have z7 : W1.cell? ⟨wr.heap.size, 7, none⟩ = some (.float .f64 r.wt) := cell_of (j := 7) z (by simp)
      clear HC HL HUL HLL HUS hib hb he b1 z
      go_wp2_with fail
      refine (unhide K).mono ?_
      rintro e w2 ⟨rfl, b2⟩
      have hI2 := isb_below6 (unhide HI1) b2
      have hB2 := bthen (unhide HB1) b2
      have K2 := hide (wstr6 _ _ _ ⟨(ltx6 k).toArray⟩ w2 hI2 (by rw [Lib.byteCells_length]; show _ + (ltx6 k).toArray.size ≤ _; rw [List.size_toArray]; omega) hB2.size)
      have HB2 := hide hB2
      clear K hI2 hB2 b2 HI1 HB1 q0 q1 q2 q3 q4 q5 q6 q7 z0 z1 z2 z3 z4 z5 z6 z7 hfl hW1
      go_wp2_with fail
      refine (unhide K2).mono ?_
      rintro e w3 ⟨rfl, h3, b3⟩
      rw [show Lib.strCells ⟨(ltx6 k).toArray⟩ = Lib.byteCells (ltx6 k) from rfl, ← Lib.byteCells_append] at h3
      have hB3 := (unhide HB2).trans b3
      have K3 := hide (wbyte6 _ _ _ 10 w3 (.inr h3) (by rw [Lib.byteCells_length, List.length_append]; omega) hB3.size)
      have HB3 := hide hB3
      clear K2 h3 b3 hB3 HB2
      go_wp2_with fail
      refine (unhide K3).mono ?_
      rintro e w4 ⟨rfl, h4, b4⟩
      have h5 : Lib.IsBuilder 90 5 w.heap.size w.heap.size (Lib.byteCells (upto6 (k + 1))) w4 := by
        rw [unhide HST, Lib.byteCells_append]
        exact .inr h4
      have HI4 := hide h5
      have HB4 := hide ((unhide HB3).trans b4)
      clear K3 h4 b4 h5 HB3 HST
      go_wp2
      go_roundw
      case rel => exact ⟨k + 1, by go_num, by omega, unhide HI4, unhide HB4⟩
      case measure => simp [intOf]; omega
    · obtain rfl : k = 2 := by omega
      have K := hide (Tryz.Builder_String _ _ (upto6 2) wr hib (by decide))
      have HB := hide hb
      clear HC HL HUL HLL HUS hib hb
      go_wp2_with fail
      refine (unhide K).mono ?_
      rintro e w2 ⟨rfl, b2⟩
      have HF := hide ((unhide HB).trans b2)
      clear K b2 HB
      go_wp2
      go_ret
      exact ⟨rfl, unhide HF⟩
set_option maxRecDepth 20000 in
set_option maxHeartbeats 4000000 in
theorem print_told6 (v : Value) (ps : List (Rec × Value)) (B : Nat) (w : World) (hR : Rown w B v ps) (hp : ps.map (·.1) = recsT) (hg : Glob w) (hs : Sn.Glob w) : Calls Tryz.prog 13 #[v] w fun e w' => e = .returned (.tuple #[.string ⟨(upto6 2).toArray⟩, .int .i64 0]) ∧ Below w.heap.size w w' := by
  have hl : ps.length = 2 := by have := congrArg List.length hp; rwa [List.length_map] at this
  have hrc : Rcs w v recsT := by
    have := hR.rcs (by omega) (fun p hpp => by
      have hm : p.1 ∈ recsT := by rw [← hp]; exact List.mem_map.2 ⟨p, hpp, rfl⟩
      simp only [recsT, List.mem_cons, List.mem_nil_iff, or_false] at hm
      rcases hm with h | h
      · rw [h]; exact ⟨by unfold I64; decide, by unfold I64; decide, by unfold I64; decide, by unfold I64; decide, by decide, by decide⟩
      · rw [h]; exact ⟨by unfold I64; decide, by unfold I64; decide, by unfold I64; decide, by unfold I64; decide, by decide, by decide⟩)
    rw [hp] at this
    exact this
  have K1 := hide (firstWrong_any v recsT w hg hrc)
  rw [show firstW recsT = (0, 0) by decide +kernel] at K1
  have K2 : Hid (∀ W, Below w.heap.size w W → Calls Tryz.prog 26 #[v] W fun e w' => e = .returned (.string ⟨(upto6 2).toArray⟩) ∧ Below W.heap.size W w') := fun W hW => lines_told6 v ps B W (hR.on7 hW) hp (hg.on hW) (hs.on hW)
  have hsz : ((⟨(upto6 2).toArray⟩ : ByteArray).size : Int) ≤ 262144 := by decide +kernel
  obtain ⟨ao, cap, hv, _, _⟩ := hrc.shape
  subst hv
  clear hR hp hg hs hrc
  generalize (⟨(upto6 2).toArray⟩ : ByteArray) = sx at *
  go_enter Tryz.func13, Tryz.ntmps13
  go_wp2_with fail
  refine (unhide K1).mono ?_
  rintro e w1 ⟨rfl, b1⟩
  have K3 := hide ((unhide K2) w1 b1)
  have HB1 := hide b1
  clear K1 K2 b1
  go_wp2_with fail
  refine (unhide K3).mono ?_
  rintro e w2 ⟨rfl, b2⟩
  have HF := hide (bthen (unhide HB1) b2)
  clear K3 b2 HB1
  go_wp2
  go_ret2
  exact ⟨rfl, unhide HF⟩
end Go.Proofs.YtceflkeaenepcaaGreatDoor
namespace Go.Proofs.YtceflkeaenepcaaGreatDoor
open Go.RowKit Go.Shelf
theorem upto_two6 : (⟨(upto6 2).toArray⟩ : ByteArray) = ⟨#[115, 104, 105, 102, 116, 32, 52, 49, 46, 46, 53, 65, 32, 54, 49, 32, 49, 10, 119, 101, 105, 103, 104, 116, 32, 52, 49, 32, 50, 53, 101, 45, 50, 10]⟩ := by rfl
set_option maxRecDepth 20000 in
set_option maxHeartbeats 4000000 in
theorem told_any6 (w : World) (hg : Glob w) (hs : Sn.Glob w) : Calls Tryz.prog 6 #[] w (BoolB w true) := by
  have K1 := hide (parse_told w hg hs)
  have HG := hide hg
  have HS := hide hs
  unfold toldS at K1
  clear hg hs
  go_enter Tryz.func6, Tryz.ntmps6
  go_wp2_with fail
  refine (unhide K1).mono ?_
  rintro e w1 ⟨v1, ps, B, rfl, hp, hB, hR, b1⟩
  have hl : ps.length = 2 := by have := congrArg List.length hp; rwa [List.length_map] at this
  obtain ⟨g, cap, hv, hca, hcb⟩ : ∃ g cap, v1 = .slice (some ⟨g, 0, none⟩) 2 cap ∧ 2 ≤ cap ∧ cap ≤ 9223372036854775807 := by
    rcases hR.1.2 with ⟨_, h0⟩ | ⟨g, cap, cur, e, _, _, h3, h4, _⟩
    · omega
    · unfold maxLen at h4
      exact ⟨g, cap, by rw [e, hl], by omega, by omega⟩
  subst hv
  have ba : Below w1.heap.size w1 (w1.alloc (.cells #[.int .i64 0, .int .i64 0, .int .i64 0] 37)) := (Below.refl _ _).alloc (Nat.le_refl _) _
  have K2 := hide (print_told6 _ ps B _ (hR.on7 ba) hp (((unhide HG).on b1).on ba) (((unhide HS).on b1).on ba))
  rw [upto_two6] at K2
  have hx : w1.cell? ⟨g, 15, none⟩ = some (.float .f64 4598175219545276416) := by
    have hR2 : Rown w1 B (.slice (some ⟨g, 0, none⟩) ps.length cap) ps := by rw [hl]; exact hR
    obtain ⟨r, ao, len, cp, e, _, _, _, _, _, _, _, q7, _⟩ := hR2.cells8 (i := 1) (by omega)
    have hr : recsT[1]? = some r := by rw [← hp, List.getElem?_map, List.getElem?_eq_getElem (by omega), e]; rfl
    simp only [recsT, List.getElem?_cons_succ, List.getElem?_cons_zero, Option.some.injEq] at hr
    subst hr
    exact q7
  have HX : Hid (∀ W, Below w1.heap.size w1 W → W.cell? ⟨g, 15, none⟩ = some (.float .f64 4598175219545276416)) := fun W hW => by rw [hW.cell (lt_of_cell? hx)]; exact hx
  have HBA := hide ba
  have HB1 := hide b1
  clear K1 hR hp b1 ba hx hl hB
  go_wp2_with fail
  refine (unhide K2).mono ?_
  rintro e w2 ⟨rfl, b2⟩
  have B2 := bthen (unhide HBA) b2
  have K3 := hide (check_told w2 ((unhide HG).on (bthen (unhide HB1) B2)))
  have HB2 := hide B2
  clear K2 b2 B2 HBA
  go_wp2_with fail
  refine (unhide K3).mono ?_
  rintro e w3 ⟨rfl, b3⟩
  have B3 := bthen (unhide HB2) b3
  have x15 := (unhide HX) w3 B3
  have BW := bthen (unhide HB1) B3
  have K4 := hide (family_told w3 ((unhide HG).on BW))
  have HBW := hide BW
  clear K3 b3 B3 HB2 HX HB1 BW HG HS
  go_wp2_with fail
  refine (unhide K4).mono ?_
  rintro e w4 ⟨rfl, b4⟩
  have HF := hide (bthen (unhide HBW) b4)
  clear K4 b4 HBW x15
  go_wp2
  go_ret
  exact ⟨rfl, unhide HF⟩
end Go.Proofs.YtceflkeaenepcaaGreatDoor
