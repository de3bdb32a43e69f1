/- The contracts of slices.Equal, over the index and over the blocks. -/
import Derived.Test.YtehdeipeehaejaaTrS4
namespace Go.Proofs.Ytehdeipeehaejaa
open Go.RowKit
set_option linter.unusedSimpArgs false

theorem take_next {xs ys : List Int} {k : Nat} (h : xs.take k = ys.take k) (hx : k < xs.length) (hy : k < ys.length) (he : xs.getD k 0 = ys.getD k 0) : xs.take (k + 1) = ys.take (k + 1) := by
  rw [List.take_add_one, List.take_add_one, h]
  simp only [List.getD, List.getElem?_eq_getElem hx, List.getElem?_eq_getElem hy, Option.getD_some] at he
  rw [List.getElem?_eq_getElem hx, List.getElem?_eq_getElem hy, he]

/-- A call that answers a bool and only draws. -/
def Draws4 (w : World) (b : Bool) (e : Ending) (w' : World) : Prop := e = .returned (.bool b) ∧ ∃ m, w' = w.drewN m
theorem Draws4.mk' {w w' : World} {b c : Bool} (h : b = c) (hb : ∃ m, w' = w.drewN m) : Draws4 w c (.returned (.bool b)) w' := by subst h; exact ⟨rfl, hb⟩
theorem drew04 (w : World) : ∃ m, w = w.drewN m := ⟨0, rfl⟩
theorem drews4 {w w' : World} (h : ∃ m, w' = w.drewN m) (n : Nat) : ∃ m, w'.drewN n = w.drewN m := by
  obtain ⟨m, rfl⟩ := h
  exact ⟨m + n, by rw [World.drewN_drewN]⟩
theorem drewB4 {w w' : World} (h : ∃ m, w' = w.drewN m) : Below w.heap.size w w' := by
  obtain ⟨m, rfl⟩ := h
  exact below_drewN (Below.refl _ _) m

set_option maxHeartbeats 1000000 in
theorem equal16 (v u : Value) (xs ys : List Int) (w : World) (hv : Sk .u16 w v xs) (hu : Sk .u16 w u ys) :
    Calls Try.prog 27 #[v, u] w (Draws4 w (decide (xs = ys))) := by
  have hlx := hv.len
  have hly := hu.len
  by_cases hn : xs.length = ys.length
  · rcases Nat.eq_zero_or_pos xs.length with h0 | h0
    · have HF : ∀ w', (∃ m, w' = w.drewN m) → Draws4 w (decide (xs = ys)) (.returned (.bool true)) w' := fun w' hb => Draws4.mk' (by
        have h1 := List.eq_nil_of_length_eq_zero h0
        have h2 := List.eq_nil_of_length_eq_zero (hn ▸ h0)
        simp [h1, h2]) hb
      obtain ⟨ao, cap, rfl, _, _⟩ := hv.shape
      obtain ⟨ao', cap', rfl, _, _⟩ := hu.shape
      rw [← hn, h0]
      clear hv hu
      generalize decide (xs = ys) = b at *
      go_enter Try.func27, Try.ntmps27
      go_wp2
      refine wp_loop_rounds 1 ?_
      rw [rounds_succ]
      go_wp2
      go_ret
      exact HF _ (drew04 w)
    · have HE : ∀ w', (∃ m, w' = w.drewN m) → xs.take xs.length = ys.take xs.length → Draws4 w (decide (xs = ys)) (.returned (.bool true)) w' := fun w' hb ht => Draws4.mk' (by
        rw [List.take_length, hn, List.take_length] at ht
        simp [ht]) hb
      have HN : ∀ w' k, (∃ m, w' = w.drewN m) → ¬ xs.getD k 0 = ys.getD k 0 → Draws4 w (decide (xs = ys)) (.returned (.bool false)) w' := fun w' k hb ht => Draws4.mk' (by
        symm; rw [decide_eq_false_iff_not]; intro h; subst h; exact ht rfl) hb
      have HS : ∀ wr, Below w.heap.size w wr → Sk .u16 wr v xs ∧ Sk .u16 wr u ys := fun wr hb => ⟨hv.below hb, hu.below hb⟩
      obtain ⟨b, off, cap, rfl, hc1, hc2, hc⟩ := hv.place h0
      obtain ⟨b', off', cap', rfl, hc1', hc2', hc'⟩ := hu.place (by omega)
      have HC : ∀ wr, Below w.heap.size w wr → ∀ i, i < xs.length → wr.cell? ⟨b, off + i, none⟩ = some (.int .u16 (xs.getD i 0)) ∧ wr.cell? ⟨b', off' + i, none⟩ = some (.int .u16 (ys.getD i 0)) := by
        intro wr hb i hi
        constructor
        · rw [hb.cell (lt_of_cell? (hc i hi))]; exact hc i hi
        · rw [hb.cell (lt_of_cell? (hc' i (by omega)))]; exact hc' i (by omega)
      rw [← hn] at hc1' ⊢
      have HFx := hide hv.1
      have HFy := hide hu.1
      have hln := hide hn
      clear hv hu HS hc hc' hn
      generalize decide (xs = ys) = bb at *
      go_enter Try.func27, Try.ntmps27
      go_wp2
      go_loopw [13] (fun i wr => ∃ k : Nat, i = .int .i64 k ∧ k ≤ xs.length ∧ xs.take k = ys.take k ∧ ∃ m, wr = w.drewN m) (fun i _ => xs.length - (intOf i).toNat)
      case atStart => exact ⟨0, rfl, by omega, by simp, drew04 w⟩
      case round =>
        obtain ⟨k, rfl, hk, htk, hbel⟩ := hrel
        by_cases hlt : k < xs.length
        · obtain ⟨c1, c2⟩ := HC _ (drewB4 hbel) k hlt
          have HT := hide htk
          clear htk
          cases he : (xs.getD k 0 != ys.getD k 0) with
          | true =>
            have HR := fun w' hb => HN w' k hb (by simpa using he)
            clear HN HE HC
            generalize xs.getD k 0 = x at *
            generalize ys.getD k 0 = y at *
            go_wp2
            go_quiet (fail)
            go_wp2
            go_ret
            exact HR _ (drews4 hbel nq)
          | false =>
            have he' : xs.getD k 0 = ys.getD k 0 := by simpa using he
            have HT2 := hide (take_next (unhide HT) hlt (by have := unhide hln; omega) he')
            clear HN HE HC HT he'
            generalize xs.getD k 0 = x at *
            generalize ys.getD k 0 = y at *
            go_wp2
            go_quiet (fail)
            go_wp2
            go_roundw
            case rel => exact ⟨k + 1, by go_num, by omega, unhide HT2, drews4 hbel nq⟩
            case measure => simp [intOf]; omega
        · obtain rfl : k = xs.length := by omega
          have HR := HE _ hbel htk
          clear HN HE HC
          go_wp2
          go_ret
          exact HR
  · have HF : Draws4 w (decide (xs = ys)) (.returned (.bool false)) w := Draws4.mk' (by
      symm; rw [decide_eq_false_iff_not]; intro h; subst h; exact hn rfl) (drew04 w)
    have hne : ((xs.length : Int) != (ys.length : Int)) = true := by simp; omega
    obtain ⟨ao, cap, rfl, _, _⟩ := hv.shape
    obtain ⟨ao', cap', rfl, _, _⟩ := hu.shape
    clear hv hu hn
    generalize decide (xs = ys) = b at *
    go_enter Try.func27, Try.ntmps27
    go_wp2
    go_ret
    exact HF


theorem take_nextB {xs ys : List (List Int)} {k : Nat} (h : xs.take k = ys.take k) (hx : k < xs.length) (hy : k < ys.length) (he : xs.getD k [] = ys.getD k []) : xs.take (k + 1) = ys.take (k + 1) := by
  rw [List.take_add_one, List.take_add_one, h]
  simp only [List.getD, List.getElem?_eq_getElem hx, List.getElem?_eq_getElem hy, Option.getD_some] at he
  rw [List.getElem?_eq_getElem hx, List.getElem?_eq_getElem hy, he]
theorem run_blk_eql (w : World) (xs ys : List Int) (hx : xs.length = 64) (hy : ys.length = 64) : (Op.equalIn 10000 60 (.agg (arrA xs)) (.agg (arrA ys))).run Try.prog w = .ok (decide (xs = ys)) w := by
  cases hi : Try.prog.info? 47 with
  | none => have := infoU16; rw [hi] at this; cases this
  | some i =>
    rw [show (10000 : Nat) = 9999 + 1 from rfl, run_equalIn_array w 9999 (arrA xs) (arrA ys) Try.underlying60 hi, show (9999 : Nat) = 9998 + 1 from rfl, run_items w 9998 _ (by kernel_rfl) xs ys (by omega) _ (fun i hi => by rw [List.mem_range] at hi; omega), all_range_eq hx hy]

set_option maxHeartbeats 1000000 in
theorem equalB (v u : Value) (xs ys : List (List Int)) (w : World) (hv : Sb w v xs) (hu : Sb w u ys) (hlx : xs.length ≤ 20000) (hly : ys.length ≤ 20000) :
    Calls Try.prog 28 #[v, u] w (Draws4 w (decide (xs = ys))) := by
  by_cases hn : xs.length = ys.length
  · rcases Nat.eq_zero_or_pos xs.length with h0 | h0
    · have HF : ∀ w', (∃ m, w' = w.drewN m) → Draws4 w (decide (xs = ys)) (.returned (.bool true)) w' := fun w' hb => Draws4.mk' (by
        have h1 := List.eq_nil_of_length_eq_zero h0
        have h2 := List.eq_nil_of_length_eq_zero (hn ▸ h0)
        simp [h1, h2]) hb
      obtain ⟨ao, cap, rfl, _, _⟩ := hv.shape
      obtain ⟨ao', cap', rfl, _, _⟩ := hu.shape
      rw [← hn, h0]
      clear hv hu
      generalize decide (xs = ys) = b at *
      go_enter Try.func28, Try.ntmps28
      go_wp2
      refine wp_loop_rounds 1 ?_
      rw [rounds_succ]
      go_wp2
      go_ret
      exact HF _ (drew04 w)
    · have HE : Hid (∀ w', (∃ m, w' = w.drewN m) → xs.take xs.length = ys.take xs.length → Draws4 w (decide (xs = ys)) (.returned (.bool true)) w') := fun w' hb ht => Draws4.mk' (by
        rw [List.take_length, hn, List.take_length] at ht
        simp [ht]) hb
      have HN : Hid (∀ w' k, (∃ m, w' = w.drewN m) → ¬ xs.getD k [] = ys.getD k [] → Draws4 w (decide (xs = ys)) (.returned (.bool false)) w') := fun w' k hb ht => Draws4.mk' (by
        symm; rw [decide_eq_false_iff_not]; intro h; subst h; exact ht rfl) hb
      have HGx := hide hv.1
      have HGy := hide hu.1
      obtain ⟨b, off, cap, rfl, hc1, hc2, hc⟩ := hv.place h0
      obtain ⟨b', off', cap', rfl, hc1', hc2', hc'⟩ := hu.place (by omega)
      have HC : Hid (∀ i, i < xs.length → w.rangeAt b (off + i * 64) ((xs.getD i []).map (Value.int .u16)) ∧ w.rangeAt b' (off' + i * 64) ((ys.getD i []).map (Value.int .u16))) := fun i hi => ⟨hc i hi, hc' i (by omega)⟩
      rw [← hn] at hc1' ⊢
      have hln := hide hn
      clear hv hu hc hc' hn
      generalize decide (xs = ys) = bb at *
      go_enter Try.func28, Try.ntmps28
      go_wp2
      go_loopw [13] (fun i wr => ∃ k : Nat, i = .int .i64 k ∧ k ≤ xs.length ∧ xs.take k = ys.take k ∧ ∃ m, wr = w.drewN m) (fun i _ => xs.length - (intOf i).toNat)
      case atStart => exact ⟨0, rfl, by omega, by simp, drew04 w⟩
      case round =>
        obtain ⟨k, rfl, hk, htk, hbel⟩ := hrel
        by_cases hlt : k < xs.length
        · obtain ⟨c1, c2⟩ := (unhide HC) k hlt
          have g1 := ((unhide HGx) _ (Tri.getD_in hlt)).1
          have g2 := ((unhide HGy) _ (Tri.getD_in (show k < ys.length by have := unhide hln; omega))).1
          have HT := hide htk
          have HNk := hide ((unhide HN) · k)
          have hq := fun w => run_blk_eql w (xs.getD k []) (ys.getD k []) g1 g2
          have hnext := hide (fun he => take_nextB htk hlt (by have := unhide hln; omega) he)
          have hin1 : (0 : Int) ≤ (k : Int) := by omega
          have hin2 : (k : Int) < (xs.length : Int) := by omega
          obtain ⟨m, rfl⟩ := hbel
          clear htk HC HN HT HGx HGy
          generalize xs.getD k [] = x at *
          generalize ys.getD k [] = y at *
          have o1 : ∀ v ∈ x.map (Value.int .u16), v.oneCell' = true := ints_one .u16 x
          have o2 : ∀ v ∈ y.map (Value.int .u16), v.oneCell' = true := ints_one .u16 y
          have i1 := infoBl g1
          have i2 := infoBl g2
          have hu60 := Try.underlying60
          have c1' : (w.drewN m).rangeAt b (off + k * 64) (x.map (Value.int .u16)) := c1
          have c2' : (w.drewN m).rangeAt b' (off' + k * 64) (y.map (Value.int .u16)) := c2
          have hq' : ∀ w, (Op.equalIn 10000 60 (.agg (x.map (Value.int .u16)).toArray) (.agg (y.map (Value.int .u16)).toArray)).run Try.prog w = .ok (decide (x = y)) w := hq
          have hl3 := run_loadAt_mid (P := Try.prog) (w.drewN m).drew b (off + k * 64) 60 (x.map (Value.int .u16)) _ c1' Try.underlying60 rfl (infoBl g1)
          have hl7 := run_loadAt_mid (P := Try.prog) (w.drewN m).drew b' (off' + k * 64) 60 (y.map (Value.int .u16)) _ c2' Try.underlying60 rfl (infoBl g2)
          clear c1 c2 hq c1' c2' i1 i2 hu60 o1 o2
          by_cases he : x = y
          · have HT2 := hide ((unhide hnext) he)
            rw [decide_eq_true he] at hq'
            subst he
            clear hnext HNk HE
            go_wp2
            refine wp_region_any (by kernel_rfl) ?_
            change wpAny _ _ _ _ _ _ _ (World.drew _)
            refine wpAny_take (i := 0) (oi := { dst := some 16, op := Op.move (Operand.tmp 0), type := 57, pos := "slices.go:25", after := #[], guard := none }) (v := .slice (some ⟨b, off, none⟩) xs.length cap) rfl (by kernel_rfl) (by kernel_rfl) (by kernel_rfl) (fun _ _ _ h => h) (Or.inl ⟨by rfl, ?_⟩) ?_
            · intro w; go_simp
            simp only [Act.put, List.setIfInBounds_toArray, List.set_cons_zero, List.set_cons_succ]
            refine wpAny_take (i := 1) (oi := { dst := some 17, op := Op.move (Operand.tmp 5), type := 3, pos := "slices.go:25", after := #[], guard := none }) (v := .int .i64 (k : Int)) rfl (by kernel_rfl) (by kernel_rfl) (by kernel_rfl) (fun _ _ _ h => h) (Or.inl ⟨by rfl, ?_⟩) ?_
            · intro w; go_simp
            simp only [Act.put, List.setIfInBounds_toArray, List.set_cons_zero, List.set_cons_succ]
            refine wpAny_take (i := 2) (oi := { dst := some 18, op := Op.indexAddr 57 (Operand.tmp 16) (Operand.tmp 17), type := 0, pos := "slices.go:25", after := #[{ on := 0, ground := Ground.data }, { on := 1, ground := Ground.data }], guard := none }) (v := .pointer (some ⟨b, off + k * 64, none⟩)) rfl (by kernel_rfl) (by kernel_rfl) (by kernel_rfl) (fun _ _ _ h => h) (Or.inl ⟨by rfl, ?_⟩) ?_
            · intro w; go_simp
            simp only [Act.put, List.setIfInBounds_toArray, List.set_cons_zero, List.set_cons_succ]
            refine wpAny_take (i := 4) (oi := { dst := some 20, op := Op.move (Operand.tmp 1), type := 57, pos := "slices.go:25", after := #[], guard := none }) (v := .slice (some ⟨b', off', none⟩) xs.length cap') rfl (by kernel_rfl) (by kernel_rfl) (by kernel_rfl) (fun _ _ _ h => h) (Or.inl ⟨by rfl, ?_⟩) ?_
            · intro w; go_simp
            simp only [Act.put, List.setIfInBounds_toArray, List.set_cons_zero, List.set_cons_succ]
            refine wpAny_take (i := 5) (oi := { dst := some 21, op := Op.move (Operand.tmp 5), type := 3, pos := "slices.go:25", after := #[], guard := none }) (v := .int .i64 (k : Int)) rfl (by kernel_rfl) (by kernel_rfl) (by kernel_rfl) (fun _ _ _ h => h) (Or.inl ⟨by rfl, ?_⟩) ?_
            · intro w; go_simp
            simp only [Act.put, List.setIfInBounds_toArray, List.set_cons_zero, List.set_cons_succ]
            refine wpAny_take (i := 6) (oi := { dst := some 22, op := Op.indexAddr 57 (Operand.tmp 20) (Operand.tmp 21), type := 0, pos := "slices.go:25", after := #[{ on := 4, ground := Ground.data }, { on := 5, ground := Ground.data }], guard := none }) (v := .pointer (some ⟨b', off' + k * 64, none⟩)) rfl (by kernel_rfl) (by kernel_rfl) (by kernel_rfl) (fun _ _ _ h => h) (Or.inl ⟨by rfl, ?_⟩) ?_
            · intro w; go_simp
            simp only [Act.put, List.setIfInBounds_toArray, List.set_cons_zero, List.set_cons_succ]
            refine wpAny_ready (rs := [3, 7]) (by kernel_rfl) (by simp) ?_
            refine AllReady.cons (o := { dst := some 19, op := Op.load 60 (Operand.tmp 18), type := 60, pos := "slices.go:25", after := #[{ on := 2, ground := Ground.data }], guard := none }) rfl (fun K hK => ?_) (AllReady.cons (o := { dst := some 23, op := Op.load 60 (Operand.tmp 22), type := 60, pos := "slices.go:25", after := #[{ on := 6, ground := Ground.data }], guard := none }) rfl (fun K hK => ?_) AllReady.nil)
            · refine step_load (by rfl) 60 (.tmp 18) (by rfl) _ _ (by rfl) hl3 ?_
              refine hK _ _ ?_
              clear hK K
              simp only [Act.put, List.setIfInBounds_toArray, List.set_cons_zero, List.set_cons_succ]
              refine wpAny_ready (rs := [7]) (by kernel_rfl) (by simp) ?_
              refine AllReady.cons (o := { dst := some 23, op := Op.load 60 (Operand.tmp 22), type := 60, pos := "slices.go:25", after := #[{ on := 6, ground := Ground.data }], guard := none }) rfl (fun K hK => ?_) AllReady.nil
              refine step_load (by rfl) 60 (.tmp 22) (by rfl) _ _ (by rfl) hl7 ?_
              refine hK _ _ ?_
              clear hK K
              simp only [Act.put, List.setIfInBounds_toArray, List.set_cons_zero, List.set_cons_succ]
              refine wpAny_take (i := 8) (oi := { dst := some 24, op := Op.binOp BinOp.neq 60 (Operand.tmp 19) (Operand.tmp 23) 60, type := 4, pos := "slices.go:25", after := #[{ on := 3, ground := Ground.data }, { on := 7, ground := Ground.data }], guard := none }) (v := .bool false) rfl (by kernel_rfl) (by kernel_rfl) (by kernel_rfl) (fun _ _ _ h => h) (Or.inl ⟨by rfl, ?_⟩) ?_
              · intro w; go_simp
              simp only [Act.put, List.setIfInBounds_toArray, List.set_cons_zero, List.set_cons_succ]
              refine wpAny_done (by kernel_rfl) ?_ _
              go_wp2
              go_roundw
              case rel => exact ⟨k + 1, by go_num, by omega, unhide HT2, ⟨m + 1, rfl⟩⟩
              case measure => simp [intOf]; omega
            · refine step_load (by rfl) 60 (.tmp 22) (by rfl) _ _ (by rfl) hl7 ?_
              refine hK _ _ ?_
              clear hK K
              simp only [Act.put, List.setIfInBounds_toArray, List.set_cons_zero, List.set_cons_succ]
              refine wpAny_ready (rs := [3]) (by kernel_rfl) (by simp) ?_
              refine AllReady.cons (o := { dst := some 19, op := Op.load 60 (Operand.tmp 18), type := 60, pos := "slices.go:25", after := #[{ on := 2, ground := Ground.data }], guard := none }) rfl (fun K hK => ?_) AllReady.nil
              refine step_load (by rfl) 60 (.tmp 18) (by rfl) _ _ (by rfl) hl3 ?_
              refine hK _ _ ?_
              clear hK K
              simp only [Act.put, List.setIfInBounds_toArray, List.set_cons_zero, List.set_cons_succ]
              refine wpAny_take (i := 8) (oi := { dst := some 24, op := Op.binOp BinOp.neq 60 (Operand.tmp 19) (Operand.tmp 23) 60, type := 4, pos := "slices.go:25", after := #[{ on := 3, ground := Ground.data }, { on := 7, ground := Ground.data }], guard := none }) (v := .bool false) rfl (by kernel_rfl) (by kernel_rfl) (by kernel_rfl) (fun _ _ _ h => h) (Or.inl ⟨by rfl, ?_⟩) ?_
              · intro w; go_simp
              simp only [Act.put, List.setIfInBounds_toArray, List.set_cons_zero, List.set_cons_succ]
              refine wpAny_done (by kernel_rfl) ?_ _
              go_wp2
              go_roundw
              case rel => exact ⟨k + 1, by go_num, by omega, unhide HT2, ⟨m + 1, rfl⟩⟩
              case measure => simp [intOf]; omega
          · rw [decide_eq_false he] at hq'
            clear hnext HE
            go_wp2
            refine wp_region_any (by kernel_rfl) ?_
            change wpAny _ _ _ _ _ _ _ (World.drew _)
            refine wpAny_take (i := 0) (oi := { dst := some 16, op := Op.move (Operand.tmp 0), type := 57, pos := "slices.go:25", after := #[], guard := none }) (v := .slice (some ⟨b, off, none⟩) xs.length cap) rfl (by kernel_rfl) (by kernel_rfl) (by kernel_rfl) (fun _ _ _ h => h) (Or.inl ⟨by rfl, ?_⟩) ?_
            · intro w; go_simp
            simp only [Act.put, List.setIfInBounds_toArray, List.set_cons_zero, List.set_cons_succ]
            refine wpAny_take (i := 1) (oi := { dst := some 17, op := Op.move (Operand.tmp 5), type := 3, pos := "slices.go:25", after := #[], guard := none }) (v := .int .i64 (k : Int)) rfl (by kernel_rfl) (by kernel_rfl) (by kernel_rfl) (fun _ _ _ h => h) (Or.inl ⟨by rfl, ?_⟩) ?_
            · intro w; go_simp
            simp only [Act.put, List.setIfInBounds_toArray, List.set_cons_zero, List.set_cons_succ]
            refine wpAny_take (i := 2) (oi := { dst := some 18, op := Op.indexAddr 57 (Operand.tmp 16) (Operand.tmp 17), type := 0, pos := "slices.go:25", after := #[{ on := 0, ground := Ground.data }, { on := 1, ground := Ground.data }], guard := none }) (v := .pointer (some ⟨b, off + k * 64, none⟩)) rfl (by kernel_rfl) (by kernel_rfl) (by kernel_rfl) (fun _ _ _ h => h) (Or.inl ⟨by rfl, ?_⟩) ?_
            · intro w; go_simp
            simp only [Act.put, List.setIfInBounds_toArray, List.set_cons_zero, List.set_cons_succ]
            refine wpAny_take (i := 4) (oi := { dst := some 20, op := Op.move (Operand.tmp 1), type := 57, pos := "slices.go:25", after := #[], guard := none }) (v := .slice (some ⟨b', off', none⟩) xs.length cap') rfl (by kernel_rfl) (by kernel_rfl) (by kernel_rfl) (fun _ _ _ h => h) (Or.inl ⟨by rfl, ?_⟩) ?_
            · intro w; go_simp
            simp only [Act.put, List.setIfInBounds_toArray, List.set_cons_zero, List.set_cons_succ]
            refine wpAny_take (i := 5) (oi := { dst := some 21, op := Op.move (Operand.tmp 5), type := 3, pos := "slices.go:25", after := #[], guard := none }) (v := .int .i64 (k : Int)) rfl (by kernel_rfl) (by kernel_rfl) (by kernel_rfl) (fun _ _ _ h => h) (Or.inl ⟨by rfl, ?_⟩) ?_
            · intro w; go_simp
            simp only [Act.put, List.setIfInBounds_toArray, List.set_cons_zero, List.set_cons_succ]
            refine wpAny_take (i := 6) (oi := { dst := some 22, op := Op.indexAddr 57 (Operand.tmp 20) (Operand.tmp 21), type := 0, pos := "slices.go:25", after := #[{ on := 4, ground := Ground.data }, { on := 5, ground := Ground.data }], guard := none }) (v := .pointer (some ⟨b', off' + k * 64, none⟩)) rfl (by kernel_rfl) (by kernel_rfl) (by kernel_rfl) (fun _ _ _ h => h) (Or.inl ⟨by rfl, ?_⟩) ?_
            · intro w; go_simp
            simp only [Act.put, List.setIfInBounds_toArray, List.set_cons_zero, List.set_cons_succ]
            refine wpAny_ready (rs := [3, 7]) (by kernel_rfl) (by simp) ?_
            refine AllReady.cons (o := { dst := some 19, op := Op.load 60 (Operand.tmp 18), type := 60, pos := "slices.go:25", after := #[{ on := 2, ground := Ground.data }], guard := none }) rfl (fun K hK => ?_) (AllReady.cons (o := { dst := some 23, op := Op.load 60 (Operand.tmp 22), type := 60, pos := "slices.go:25", after := #[{ on := 6, ground := Ground.data }], guard := none }) rfl (fun K hK => ?_) AllReady.nil)
            · refine step_load (by rfl) 60 (.tmp 18) (by rfl) _ _ (by rfl) hl3 ?_
              refine hK _ _ ?_
              clear hK K
              simp only [Act.put, List.setIfInBounds_toArray, List.set_cons_zero, List.set_cons_succ]
              refine wpAny_ready (rs := [7]) (by kernel_rfl) (by simp) ?_
              refine AllReady.cons (o := { dst := some 23, op := Op.load 60 (Operand.tmp 22), type := 60, pos := "slices.go:25", after := #[{ on := 6, ground := Ground.data }], guard := none }) rfl (fun K hK => ?_) AllReady.nil
              refine step_load (by rfl) 60 (.tmp 22) (by rfl) _ _ (by rfl) hl7 ?_
              refine hK _ _ ?_
              clear hK K
              simp only [Act.put, List.setIfInBounds_toArray, List.set_cons_zero, List.set_cons_succ]
              refine wpAny_take (i := 8) (oi := { dst := some 24, op := Op.binOp BinOp.neq 60 (Operand.tmp 19) (Operand.tmp 23) 60, type := 4, pos := "slices.go:25", after := #[{ on := 3, ground := Ground.data }, { on := 7, ground := Ground.data }], guard := none }) (v := .bool true) rfl (by kernel_rfl) (by kernel_rfl) (by kernel_rfl) (fun _ _ _ h => h) (Or.inl ⟨by rfl, ?_⟩) ?_
              · intro w; go_simp
              simp only [Act.put, List.setIfInBounds_toArray, List.set_cons_zero, List.set_cons_succ]
              refine wpAny_done (by kernel_rfl) ?_ _
              go_wp2
              go_ret
              exact (unhide HNk) _ ⟨m + 1, rfl⟩ he
            · refine step_load (by rfl) 60 (.tmp 22) (by rfl) _ _ (by rfl) hl7 ?_
              refine hK _ _ ?_
              clear hK K
              simp only [Act.put, List.setIfInBounds_toArray, List.set_cons_zero, List.set_cons_succ]
              refine wpAny_ready (rs := [3]) (by kernel_rfl) (by simp) ?_
              refine AllReady.cons (o := { dst := some 19, op := Op.load 60 (Operand.tmp 18), type := 60, pos := "slices.go:25", after := #[{ on := 2, ground := Ground.data }], guard := none }) rfl (fun K hK => ?_) AllReady.nil
              refine step_load (by rfl) 60 (.tmp 18) (by rfl) _ _ (by rfl) hl3 ?_
              refine hK _ _ ?_
              clear hK K
              simp only [Act.put, List.setIfInBounds_toArray, List.set_cons_zero, List.set_cons_succ]
              refine wpAny_take (i := 8) (oi := { dst := some 24, op := Op.binOp BinOp.neq 60 (Operand.tmp 19) (Operand.tmp 23) 60, type := 4, pos := "slices.go:25", after := #[{ on := 3, ground := Ground.data }, { on := 7, ground := Ground.data }], guard := none }) (v := .bool true) rfl (by kernel_rfl) (by kernel_rfl) (by kernel_rfl) (fun _ _ _ h => h) (Or.inl ⟨by rfl, ?_⟩) ?_
              · intro w; go_simp
              simp only [Act.put, List.setIfInBounds_toArray, List.set_cons_zero, List.set_cons_succ]
              refine wpAny_done (by kernel_rfl) ?_ _
              go_wp2
              go_ret
              exact (unhide HNk) _ ⟨m + 1, rfl⟩ he
        · obtain rfl : k = xs.length := by omega
          have HR := (unhide HE) _ hbel htk
          clear HN HE HC
          go_wp2
          go_ret
          exact HR
  · have HF : Draws4 w (decide (xs = ys)) (.returned (.bool false)) w := Draws4.mk' (by
      symm; rw [decide_eq_false_iff_not]; intro h; subst h; exact hn rfl) (drew04 w)
    have hne : ((xs.length : Int) != (ys.length : Int)) = true := by simp; omega
    obtain ⟨ao, cap, rfl, _, _⟩ := hv.shape
    obtain ⟨ao', cap', rfl, _, _⟩ := hu.shape
    clear hv hu hn
    generalize decide (xs = ys) = b at *
    go_enter Try.func28, Try.ntmps28
    go_wp2
    go_ret
    exact HF
end Go.Proofs.Ytehdeipeehaejaa
