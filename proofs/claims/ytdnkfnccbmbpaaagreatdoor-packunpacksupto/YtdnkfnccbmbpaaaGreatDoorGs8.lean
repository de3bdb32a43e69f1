import Derived.Test.YtdnkfnccbmbpaaaGreatDoorGr8
import Derived.Deep.AppendLies
import Derived.Test.YtdnkfnccbmbpaaaGreatDoorGb8
/- A list read. -/
namespace Go.Proofs.YtdnkfnccbmbpaaaGreatDoor
open Go.RowKit
open Wi

theorem rl_step (zs : List Int) (k : Nat) (at_ : Int) (acc : List Int) (h : (Pk.ru zs at_ 1114111).2.2 = 0) : Pk.rl zs (k + 1) at_ acc = Pk.rl zs k (Pk.ru zs at_ 1114111).2.1 (acc ++ [(Pk.ru zs at_ 1114111).1]) := by
  rw [Pk.rl, if_neg (by simpa using h)]
theorem rl_err (zs : List Int) (k : Nat) (at_ : Int) (acc : List Int) (h : (Pk.ru zs at_ 1114111).2.2 ≠ 0) : Pk.rl zs (k + 1) at_ acc = (acc, at_, (Pk.ru zs at_ 1114111).2.2) := by
  rw [Pk.rl, if_pos h]
/-- The record with another list. -/
def reTo (r : Rec) (l : List Int) : Rec := ⟨r.kind, r.lo, r.hi, r.n, l, r.name, r.other, r.wt⟩
theorem list_more {w wr : World} {b p : Nat} {r : Rec} {vt : Value} {acc : List Int} {c : Int} (hg : w.grownBy wr (some p)) (hro : Ro wr w.heap.size p (reTo r acc) vt) (hbx : wr.cell? ⟨b, 0, none⟩ = some (.pointer (some ⟨p, 0, none⟩))) (hb0 : b < w.heap.size) (hbp : b ≠ p) (hl : acc.length ≤ 1000) (hc : -2147483648 ≤ c ∧ c ≤ 2147483647) : ∀ gg cap8 w8, w8.ownsRow w.heap.size 21 1 (.slice (some ⟨gg, 0, none⟩) (acc.length + 1) cap8) (acc.length + 1) (acc.map (Value.int .i32) ++ [.int .i32 c]) → ((wr.alloc (.cells #[.int .i32 c] 21)).drew).grownBy w8 vt.ownBlock → (vt.ownBlock = some gg ∨ gg = wr.heap.size + 1) →
    w8.cell? ⟨b, 0, none⟩ = some (.pointer (some ⟨p, 0, none⟩)) ∧ Ro (w8.setCell ⟨p, 4, none⟩ (.slice (some ⟨gg, 0, none⟩) (acc.length + 1) cap8)) w.heap.size p (reTo r (acc ++ [c])) (.slice (some ⟨gg, 0, none⟩) (acc.length + 1) cap8) ∧ w.grownBy (w8.setCell ⟨p, 4, none⟩ (.slice (some ⟨gg, 0, none⟩) (acc.length + 1) cap8)) (some p) ∧ (w8.setCell ⟨p, 4, none⟩ (.slice (some ⟨gg, 0, none⟩) (acc.length + 1) cap8)).cell? ⟨b, 0, none⟩ = some (.pointer (some ⟨p, 0, none⟩)) ∧ w8.cell? ⟨p, 4, none⟩ = some vt ∧ w8.frozen? ⟨p, 4, none⟩ = false := by
  intro gg cap8 w8 hrow hgr hat
  have hp := hro.lt
  have hrowne := hro.row
  have hvlt : ∀ g, vt.ownBlock = some g → w.heap.size ≤ g ∧ g < wr.heap.size := fun g h => hro.2.1.2.2.lt g h
  have k1 : ∀ g, g < wr.heap.size → vt.ownBlock ≠ some g → w8.heap[g]? = wr.heap[g]? := fun g h1 h2 => by
    have e := hgr.block g (by show g < (wr.alloc _).heap.size; rw [World.size_alloc]; omega) (fun e => h2 e.symm)
    rw [e]
    exact ((Below.refl wr.heap.size wr).alloc (Nat.le_refl _) _).block g h1
  have hs8 : wr.heap.size + 1 ≤ w8.heap.size := by have := hgr.size; simpa using this
  have hblk : w8.heap[p]? = some (.cells (rarr (reTo r acc) vt) 46 (0, 0)) := by rw [k1 p hp hrowne]; exact hro.1
  have hgp : gg ≠ p := fun e => by
    subst e
    rcases hat with h | h
    · exact hrowne h
    · omega
  have hbr : b < wr.heap.size := Nat.lt_of_lt_of_le hb0 hg.size
  have hbv : vt.ownBlock ≠ some b := fun e => by have := (hvlt b e).1; omega
  have hb8 : w8.cell? ⟨b, 0, none⟩ = some (.pointer (some ⟨p, 0, none⟩)) := (cell_kept (w := wr) (k1 b hbr hbv)).trans hbx
  refine ⟨hb8, ⟨?_, ?_, fun e => by simp [reTo] at e⟩, ?_, (cell_kept (w := w8) (set_other _ hbp)).trans hb8, cell_of (j := 4) hblk (by show 4 < 8; omega), frozen_of hblk⟩
  · rw [set_block hblk]; rfl
  · have hok : Ok .i32 21 w8 w.heap.size (.slice (some ⟨gg, 0, none⟩) (acc.length + 1) cap8) (acc ++ [c]) := Ok.of (hro.2.1.1.snoc (i32_fit hc)) (by simp; omega) hrow (by simp) (by simp)
    refine hok.keep fun g hg' => set_other _ (fun e => ?_)
    simp [Value.ownBlock] at hg'
    omega
  · refine grown_trans ⟨?_, ?_, ?_, ?_, fun g hg1 hne => ?_⟩ (grown_set _ _ _ _)
    · exact hgr.os.trans hg.os
    · exact hgr.tape.trans hg.tape
    · exact hgr.output.trans hg.output
    · have := hg.size; omega
    · have hlt := Nat.lt_of_lt_of_le hg1 hg.size
      rw [k1 g hlt (fun e => by have := (hvlt g e).1; omega)]
      exact hg.block g hg1 hne
set_option maxRecDepth 8000 in
set_option maxHeartbeats 8000000 in
theorem list_read (b B p : Nat) (v : Value) (zs : List Int) (at_ : Int) (r : Rec) (vt0 : Value) (w : World) (hs : Sl w v zs) (hbp : b ≠ p) (hb : w.cell? ⟨b, 0, none⟩ = some (.pointer (some ⟨p, 0, none⟩))) (hr : Ro w B p r vt0) (hto : r.to = []) (hB : B ≤ w.heap.size) (hv : ∀ o g cap, v = .slice (some o) g cap → o.block ≠ p) : Calls Tryz.prog 77 #[v, .int .i64 at_, .pointer (some ⟨b, 0, none⟩)] w (ReadB w B p (Pk.fr zs at_ r 7)) := by
  obtain ⟨i0, hi, hz0, hz1, hz2⟩ := info_parts Tryz.info21
  have e7 : Pk.fr zs at_ r 7 = if (Pk.ru zs at_ 24).2.2 ≠ 0 then (r, at_, (Pk.ru zs at_ 24).2.2) else (reTo r (Pk.rl zs (Pk.ru zs at_ 24).1.toNat (Pk.ru zs at_ 24).2.1 r.to).1, (Pk.rl zs (Pk.ru zs at_ 24).1.toNat (Pk.ru zs at_ 24).2.1 r.to).2) := rfl
  rw [e7, hto]
  have K := hide (upto_any v zs at_ 24 w hs)
  have hok := ru_ok zs at_ 24
  have hat := ru_at zs at_ 24
  have HSL : Hid (∀ W, w.grownBy W (some p) → Sl W v zs) := fun W hg => by
    obtain ⟨h1, h2, h3⟩ := hs
    refine ⟨h1, h2, ?_⟩
    rcases h3 with h3 | ⟨b', off', cap', hve, h5, h6, h7⟩
    · exact .inl h3
    · refine .inr ⟨b', off', cap', hve, h5, h6, fun i hi => ?_⟩
      have := hv _ _ _ hve
      rw [cell_kept (w := w) (hg.block b' (lt_of_cell? (h7 i hi)) (fun e => this (by simpa using e)))]
      exact h7 i hi
  have KU : Hid (∀ a W, w.grownBy W (some p) → Calls Tryz.prog 78 #[v, .int .i64 a, .int .i64 1114111] W (TriB W (Pk.ru zs a 1114111))) := fun a W hg => upto_any v zs a 1114111 W ((unhide HSL) W hg)
  have HRU : Hid (∀ a, (Pk.ru zs a 1114111).2.2 = 0 → 0 ≤ (Pk.ru zs a 1114111).1 ∧ (Pk.ru zs a 1114111).1 ≤ 1114111) := fun a h => ⟨(ru_ok zs a 1114111 h).1, (ru_ok zs a 1114111 h).2.1⟩
  have HRA : Hid (∀ a, (Pk.ru zs a 1114111).2.2 ≠ 0 → (Pk.ru zs a 1114111).2.1 = a) := fun a h => ru_at zs a 1114111 h
  have HBX : Hid (∀ W, w.grownBy W (some p) → W.cell? ⟨b, 0, none⟩ = some (.pointer (some ⟨p, 0, none⟩))) := fun W hg => hg.cell hb (fun e => hbp (by simpa using e))
  have HR0 : Hid (Ro w w.heap.size p (reTo r []) (.slice none 0 0)) := by
    refine ⟨?_, Ok.nil _ _ _ _, fun _ => rfl⟩
    rw [hr.1, hr.2.2 hto]
    have : rarr (reTo r []) (.slice none 0 0) = rarr r (.slice none 0 0) := rfl
    rw [this]
  have hb0 := lt_of_cell? hb
  obtain ⟨ao, cap, rfl, hc1, hc2⟩ := hs.shape
  clear hs hc1 hc2 hv hr HSL e7
  have HQ : Hid (∀ k a acc, (Pk.ru zs a 1114111).2.2 = 0 → Pk.rl zs (k + 1) a acc = Pk.rl zs k (Pk.ru zs a 1114111).2.1 (acc ++ [(Pk.ru zs a 1114111).1])) := fun k a acc h => rl_step zs k a acc h
  have HQE : Hid (∀ k a acc, (Pk.ru zs a 1114111).2.2 ≠ 0 → Pk.rl zs (k + 1) a acc = (acc, a, (Pk.ru zs a 1114111).2.2)) := fun k a acc h => rl_err zs k a acc h
  have HQ0 : Hid (∀ a acc, Pk.rl zs 0 a acc = (acc, a, 0)) := fun a acc => rfl
  generalize Pk.ru zs at_ 24 = q0 at *
  by_cases he : q0.2.2 = 0
  · rw [if_neg (by simpa using he)]
    have hq0 : (q0.2.2 != 0) = false := by simp [he]
    have h2 := hok he
    obtain ⟨sz, hsz⟩ : ∃ n : Nat, q0.1 = (n : Int) := ⟨q0.1.toNat, by omega⟩
    have hsz24 : sz ≤ 24 := by omega
    have hnat : q0.1.toNat = sz := by omega
    rw [hnat]
    clear hok hat he h2 hnat
    generalize hRES : Pk.rl zs sz q0.2.1 [] = RES
    obtain ⟨qa, qb, qc⟩ := q0
    have hsz2 : qa = (sz : Int) := hsz
    clear hsz
    subst hsz2
    have hq0 : (qc != 0) = false := hq0
    have HRES : Hid (Pk.rl zs sz qb [] = RES) := hRES
    clear hRES
    go_enter Tryz.func77, Tryz.ntmps77
    go_wp2_with fail
    refine (unhide K).mono ?_
    rintro e w ⟨rfl, rfl⟩
    clear K
    go_wp2
    go_loopw [1, 9, 10, 11, 24] (fun av _ _ _ iv wr => ∃ (k : Nat) (a : Int) (acc : List Int), iv = .int .i64 k ∧ av = .int .i64 a ∧ k ≤ sz ∧ acc.length = k ∧ Pk.rl zs (sz - k) a acc = RES ∧ w.grownBy wr (some p) ∧ ∃ vt, Ro wr w.heap.size p (reTo r acc) vt) (fun _ _ _ _ iv _ => sz - (intOf iv).toNat)
    case atStart => exact ⟨0, qb, [], rfl, rfl, by omega, rfl, unhide HRES, grown_refl _ _, _, unhide HR0⟩
    case round =>
      obtain ⟨k, a, acc, rfl, rfl, hk, hacc, hrl, hg, vt, hro⟩ := hrel
      have hal : acc.length ≤ 24 := by omega
      have HACC := hide hacc
      clear hacc
      by_cases hlt : k < sz
      · have KR := hide ((unhide KU) a wr hg)
        have hr1 := (unhide HRU) a
        have hr2 := (unhide HRA) a
        obtain ⟨d, hd⟩ : ∃ d, sz - k = d + 1 := ⟨sz - k - 1, by omega⟩
        have hd2 : sz - (k + 1) = d := by omega
        rw [hd] at hrl
        have hs1 := (unhide HQ) d a acc
        have hs2 := (unhide HQE) d a acc
        have hbx := (unhide HBX) wr hg
        generalize hqq : Pk.ru zs a 1114111 = q at *
        clear hqq KU HRU HRA HQ HQE HQ0 HR0 HRES HBX hb
        by_cases he : q.2.2 = 0
        · have hq : (q.2.2 != 0) = false := by simp [he]
          obtain ⟨hn0, hn1⟩ := hr1 he
          have HNX : Hid (Pk.rl zs (sz - (k + 1)) q.2.1 (acc ++ [q.1]) = RES) := by
            show Pk.rl zs (sz - (k + 1)) q.2.1 (acc ++ [q.1]) = RES
            rw [hd2, ← hs1 he]; exact hrl
          have hw32 : IntKind.i32.wrap q.1 = q.1 := by rw [IntKind.wrap_i32]; omega
          have x4 : wr.cell? ⟨p, 4, none⟩ = some vt := cell_of (j := 4) hro.1 (by show 4 < 8; omega)
          have hsw := hg.size
          have HBA : Hid ((wr.alloc (.cells #[.int .i32 q.1] 21)).drew.cell? ⟨b, 0, none⟩ = some (.pointer (some ⟨p, 0, none⟩))) := cell_old _ hbx
          have HXA : ∀ o, (wr.alloc o).cell? ⟨p, 4, none⟩ = some vt := fun o => cell_old _ x4
          have HROW : Hid (((wr.alloc (.cells #[.int .i32 q.1] 21)).drew).ownsRow w.heap.size 21 1 vt acc.length (acc.map (Value.int .i32))) := hro.2.1.row.alloc _
          have HNEW : Hid (∀ j u, [Value.int .i32 q.1][j]? = some u → ((wr.alloc (.cells #[.int .i32 q.1] 21)).drew).cell? ((⟨wr.heap.size, 0, none⟩ : Addr).add j) = some u) := one_new wr _ _ _ rfl
          have HMORE : Hid (∀ gg cap8 w8, w8.ownsRow w.heap.size 21 1 (.slice (some ⟨gg, 0, none⟩) (acc.length + 1) cap8) (acc.length + 1) (acc.map (Value.int .i32) ++ [.int .i32 q.1]) → ((wr.alloc (.cells #[.int .i32 q.1] 21)).drew).grownBy w8 vt.ownBlock → (vt.ownBlock = some gg ∨ gg = wr.heap.size + 1) →
              w8.cell? ⟨b, 0, none⟩ = some (.pointer (some ⟨p, 0, none⟩)) ∧ Ro (w8.setCell ⟨p, 4, none⟩ (.slice (some ⟨gg, 0, none⟩) (acc.length + 1) cap8)) w.heap.size p (reTo r (acc ++ [q.1])) (.slice (some ⟨gg, 0, none⟩) (acc.length + 1) cap8) ∧ w.grownBy (w8.setCell ⟨p, 4, none⟩ (.slice (some ⟨gg, 0, none⟩) (acc.length + 1) cap8)) (some p) ∧ (w8.setCell ⟨p, 4, none⟩ (.slice (some ⟨gg, 0, none⟩) (acc.length + 1) cap8)).cell? ⟨b, 0, none⟩ = some (.pointer (some ⟨p, 0, none⟩)) ∧ w8.cell? ⟨p, 4, none⟩ = some vt ∧ w8.frozen? ⟨p, 4, none⟩ = false) :=
            list_more hg hro hbx hb0 hbp (by omega) ⟨by omega, by omega⟩
          clear hro hr1 hr2 hs1 hs2 hrl hd hd2 he hg
          go_wp2_with fail
          refine (unhide KR).mono ?_
          rintro e wr ⟨rfl, rfl⟩
          clear KR
          go_wp2
          refine wp_region_held_drew (S := fun w' => w'.cell? ⟨b, 0, none⟩ = some (.pointer (some ⟨p, 0, none⟩))) (by kernel_rfl) (by exact hbx) (fun hHeld => ?_)
          refine wpAnyH_take (i := 0) (oi := { dst := some 37, op := Op.load 57 (Operand.tmp 2), type := 57, pos := "field.go:117", after := #[], guard := none }) (v := .pointer (some ⟨p, 0, none⟩)) rfl (by kernel_rfl) (by kernel_rfl) (by kernel_rfl) (fun _ _ _ h => h) (Or.inl ⟨by rfl, ?_⟩) hHeld ?_
          · intro w hSw
            go_simp
          try simp only [Act.put, List.setIfInBounds_toArray, List.set_cons_zero, List.set_cons_succ]
          refine wpAnyH_take (i := 1) (oi := { dst := some 38, op := Op.load 57 (Operand.tmp 2), type := 57, pos := "field.go:117", after := #[], guard := none }) (v := .pointer (some ⟨p, 0, none⟩)) rfl (by kernel_rfl) (by kernel_rfl) (by kernel_rfl) (fun _ _ _ h => h) (Or.inl ⟨by rfl, ?_⟩) hHeld ?_
          · intro w hSw
            go_simp
          try simp only [Act.put, List.setIfInBounds_toArray, List.set_cons_zero, List.set_cons_succ]
          refine wpAnyH_take (i := 2) (oi := { dst := some 39, op := Op.nilCheck (Operand.tmp 38), type := 0, pos := "field.go:117", after := #[{ on := 1, ground := Ground.data }], guard := none }) (v := .pointer (some ⟨p, 0, none⟩)) rfl (by kernel_rfl) (by kernel_rfl) (by kernel_rfl) (fun _ _ _ h => h) (Or.inl ⟨by rfl, ?_⟩) hHeld ?_
          · intro w hSw
            go_simp
          try simp only [Act.put, List.setIfInBounds_toArray, List.set_cons_zero, List.set_cons_succ]
          refine wpAnyH_take (i := 3) (oi := { dst := some 40, op := Op.fieldAddr 46 (Operand.tmp 39) 4, type := 0, pos := "field.go:117", after := #[{ on := 2, ground := Ground.data }], guard := none }) (v := .pointer (some ⟨p, 4, none⟩)) rfl (by kernel_rfl) (by kernel_rfl) (by kernel_rfl) (fun _ _ _ h => h) (Or.inl ⟨by rfl, ?_⟩) hHeld ?_
          · intro w hSw
            go_simp
          try simp only [Act.put, List.setIfInBounds_toArray, List.set_cons_zero, List.set_cons_succ]
          refine wpAnyH_take (i := 5) (oi := { dst := some 42, op := Op.move (Operand.tmp 9), type := 3, pos := "field.go:117", after := #[], guard := none }) (v := .int .i64 q.1) rfl (by kernel_rfl) (by kernel_rfl) (by kernel_rfl) (fun _ _ _ h => h) (Or.inl ⟨by rfl, ?_⟩) hHeld ?_
          · intro w hSw
            go_simp
          try simp only [Act.put, List.setIfInBounds_toArray, List.set_cons_zero, List.set_cons_succ]
          refine wpAnyH_take (i := 6) (oi := { dst := some 43, op := Op.convert 3 21 (Operand.tmp 42), type := 21, pos := "field.go:117", after := #[{ on := 5, ground := Ground.data }], guard := none }) (v := .int .i32 q.1) rfl (by kernel_rfl) (by kernel_rfl) (by kernel_rfl) (fun _ _ _ h => h) (Or.inl ⟨by rfl, ?_⟩) hHeld ?_
          · intro w hSw
            go_simp
          try simp only [Act.put, List.setIfInBounds_toArray, List.set_cons_zero, List.set_cons_succ]
          refine wpAnyH_ready (rs := [4, 7]) (by kernel_rfl) (by simp) ?_
          refine AllReadyH.cons (o := { dst := some 41, op := Op.load 43 (Operand.tmp 40), type := 43, pos := "field.go:117", after := #[{ on := 3, ground := Ground.data }], guard := none }) rfl (fun K hK => ?_) (AllReadyH.cons (o := { dst := some 44, op := Op.buildSlice 43 1 #[(0, Operand.tmp 43)], type := 43, pos := "field.go:117", after := #[{ on := 6, ground := Ground.data }], guard := none }) rfl (fun K hK => ?_) AllReadyH.nil)
          · go_simp
            refine hK.out _ _ ?_ (fun hHeld => ?_)
            · first | exact hbx | exact (unhide HBA)
            clear hK K
            try simp only [Act.put, List.setIfInBounds_toArray, List.set_cons_zero, List.set_cons_succ]
            refine wpAnyH_ready (rs := [7]) (by kernel_rfl) (by simp) ?_
            refine AllReadyH.cons (o := { dst := some 44, op := Op.buildSlice 43 1 #[(0, Operand.tmp 43)], type := 43, pos := "field.go:117", after := #[{ on := 6, ground := Ground.data }], guard := none }) rfl (fun K hK => ?_) AllReadyH.nil
            go_simp
            refine hK.out _ _ ?_ (fun hHeld => ?_)
            · exact (unhide HBA)
            clear hK K
            try simp only [Act.put, List.setIfInBounds_toArray, List.set_cons_zero, List.set_cons_succ]
            refine wpAnyH_ready (rs := [8]) (by kernel_rfl) (by simp) ?_
            refine AllReadyH.cons (o := { dst := some 45, op := Op.call { callee := Callee.builtin Builtin.append, args := #[Operand.tmp 41, Operand.tmp 44], argTypes := #[43, 43] }, type := 43, pos := "field.go:117", after := #[{ on := 4, ground := Ground.data }, { on := 7, ground := Ground.data }], guard := none }) rfl (fun K hK => ?_) AllReadyH.nil
            refine step_append_lies _ (by rfl) (.tmp 41) (.tmp 44) 43 (by rfl) w.heap.size 21 i0 (.int .i32 0) 1 4 Tryz.underlying43 hi hz0 hz1 hz2 rfl (by omega) vt acc.length (acc.map (Value.int .i32)) (by rfl) (unhide HROW) ⟨wr.heap.size, 0, none⟩ 1 1 [.int .i32 q.1] (by rfl) (by rfl) (unhide HNEW) (int_one _ _) (by omega) (by unfold maxLen; omega) (by omega) (by simp; omega) (wr.heap.size + 1) (by simp) ?_
            intro gg cap8 w8 hrow8 hgrow8 hat8 hlt8
            obtain ⟨hb8, hro8, hgr8, hbx8, hc4, hf4⟩ := (unhide HMORE) gg cap8 w8 hrow8 hgrow8 hat8
            clear hrow8 hgrow8 hat8
            refine hK.out _ _ ?_ (fun hHeld => ?_)
            · exact hb8
            clear hK K
            try simp only [Act.put, List.setIfInBounds_toArray, List.set_cons_zero, List.set_cons_succ]
            refine wpAnyH_take (i := 9) (oi := { dst := some 46, op := Op.nilCheck (Operand.tmp 37), type := 0, pos := "field.go:117", after := #[{ on := 0, ground := Ground.data }, { on := 0, ground := Ground.phase }, { on := 1, ground := Ground.phase }, { on := 2, ground := Ground.phase }, { on := 3, ground := Ground.phase }, { on := 4, ground := Ground.phase }, { on := 5, ground := Ground.phase }, { on := 6, ground := Ground.phase }, { on := 7, ground := Ground.phase }, { on := 8, ground := Ground.phase }], guard := none }) (v := .pointer (some ⟨p, 0, none⟩)) rfl (by kernel_rfl) (by kernel_rfl) (by kernel_rfl) (fun _ _ _ h => h) (Or.inl ⟨by rfl, ?_⟩) hHeld ?_
            · intro w hSw
              go_simp
            try simp only [Act.put, List.setIfInBounds_toArray, List.set_cons_zero, List.set_cons_succ]
            refine wpAnyH_take (i := 10) (oi := { dst := some 47, op := Op.fieldAddr 46 (Operand.tmp 46) 4, type := 0, pos := "field.go:117", after := #[{ on := 9, ground := Ground.data }, { on := 0, ground := Ground.phase }, { on := 1, ground := Ground.phase }, { on := 2, ground := Ground.phase }, { on := 3, ground := Ground.phase }, { on := 4, ground := Ground.phase }, { on := 5, ground := Ground.phase }, { on := 6, ground := Ground.phase }, { on := 7, ground := Ground.phase }, { on := 8, ground := Ground.phase }], guard := none }) (v := .pointer (some ⟨p, 4, none⟩)) rfl (by kernel_rfl) (by kernel_rfl) (by kernel_rfl) (fun _ _ _ h => h) (Or.inl ⟨by rfl, ?_⟩) hHeld ?_
            · intro w hSw
              go_simp
            try simp only [Act.put, List.setIfInBounds_toArray, List.set_cons_zero, List.set_cons_succ]
            refine wpAnyH_ready (rs := [11]) (by kernel_rfl) (by simp) ?_
            refine AllReadyH.cons (o := { dst := none, op := Op.store 43 (Operand.tmp 47) (Operand.tmp 45), type := 0, pos := "field.go:117", after := #[{ on := 10, ground := Ground.data }, { on := 8, ground := Ground.data }, { on := 8, ground := Ground.chain }, { on := 0, ground := Ground.phase }, { on := 1, ground := Ground.phase }, { on := 2, ground := Ground.phase }, { on := 3, ground := Ground.phase }, { on := 4, ground := Ground.phase }, { on := 5, ground := Ground.phase }, { on := 6, ground := Ground.phase }, { on := 7, ground := Ground.phase }, { on := 8, ground := Ground.phase }], guard := none }) rfl (fun K hK => ?_) AllReadyH.nil
            go_simp
            refine hK.out _ _ ?_ (fun hHeld => ?_)
            · exact hbx8
            clear hK K
            try simp only [Act.put, List.setIfInBounds_toArray, List.set_cons_zero, List.set_cons_succ]
            refine wpAnyH_done (by kernel_rfl) ?_ _
            have R := hide hro8
            have R2 := hide hgr8
            clear hHeld hb8 hro8 hgr8 hbx8 hc4 hf4 hlt8 HMORE HROW HNEW
            generalize w8.setCell ⟨p, 4, none⟩ (.slice (some ⟨gg, 0, none⟩) (acc.length + 1) cap8) = w9 at *
            go_wp2
            go_roundw
            case rel => exact ⟨k + 1, q.2.1, acc ++ [q.1], by go_num, rfl, by omega, by have := unhide HACC; simp; omega, unhide HNX, unhide R2, _, unhide R⟩
            case measure => simp [intOf]; omega
          · go_simp
            refine hK.out _ _ ?_ (fun hHeld => ?_)
            · first | exact hbx | exact (unhide HBA)
            clear hK K
            try simp only [Act.put, List.setIfInBounds_toArray, List.set_cons_zero, List.set_cons_succ]
            refine wpAnyH_ready (rs := [4]) (by kernel_rfl) (by simp) ?_
            refine AllReadyH.cons (o := { dst := some 41, op := Op.load 43 (Operand.tmp 40), type := 43, pos := "field.go:117", after := #[{ on := 3, ground := Ground.data }], guard := none }) rfl (fun K hK => ?_) AllReadyH.nil
            go_simp
            refine hK.out _ _ ?_ (fun hHeld => ?_)
            · exact (unhide HBA)
            clear hK K
            try simp only [Act.put, List.setIfInBounds_toArray, List.set_cons_zero, List.set_cons_succ]
            refine wpAnyH_ready (rs := [8]) (by kernel_rfl) (by simp) ?_
            refine AllReadyH.cons (o := { dst := some 45, op := Op.call { callee := Callee.builtin Builtin.append, args := #[Operand.tmp 41, Operand.tmp 44], argTypes := #[43, 43] }, type := 43, pos := "field.go:117", after := #[{ on := 4, ground := Ground.data }, { on := 7, ground := Ground.data }], guard := none }) rfl (fun K hK => ?_) AllReadyH.nil
            refine step_append_lies _ (by rfl) (.tmp 41) (.tmp 44) 43 (by rfl) w.heap.size 21 i0 (.int .i32 0) 1 4 Tryz.underlying43 hi hz0 hz1 hz2 rfl (by omega) vt acc.length (acc.map (Value.int .i32)) (by rfl) (unhide HROW) ⟨wr.heap.size, 0, none⟩ 1 1 [.int .i32 q.1] (by rfl) (by rfl) (unhide HNEW) (int_one _ _) (by omega) (by unfold maxLen; omega) (by omega) (by simp; omega) (wr.heap.size + 1) (by simp) ?_
            intro gg cap8 w8 hrow8 hgrow8 hat8 hlt8
            obtain ⟨hb8, hro8, hgr8, hbx8, hc4, hf4⟩ := (unhide HMORE) gg cap8 w8 hrow8 hgrow8 hat8
            clear hrow8 hgrow8 hat8
            refine hK.out _ _ ?_ (fun hHeld => ?_)
            · exact hb8
            clear hK K
            try simp only [Act.put, List.setIfInBounds_toArray, List.set_cons_zero, List.set_cons_succ]
            refine wpAnyH_take (i := 9) (oi := { dst := some 46, op := Op.nilCheck (Operand.tmp 37), type := 0, pos := "field.go:117", after := #[{ on := 0, ground := Ground.data }, { on := 0, ground := Ground.phase }, { on := 1, ground := Ground.phase }, { on := 2, ground := Ground.phase }, { on := 3, ground := Ground.phase }, { on := 4, ground := Ground.phase }, { on := 5, ground := Ground.phase }, { on := 6, ground := Ground.phase }, { on := 7, ground := Ground.phase }, { on := 8, ground := Ground.phase }], guard := none }) (v := .pointer (some ⟨p, 0, none⟩)) rfl (by kernel_rfl) (by kernel_rfl) (by kernel_rfl) (fun _ _ _ h => h) (Or.inl ⟨by rfl, ?_⟩) hHeld ?_
            · intro w hSw
              go_simp
            try simp only [Act.put, List.setIfInBounds_toArray, List.set_cons_zero, List.set_cons_succ]
            refine wpAnyH_take (i := 10) (oi := { dst := some 47, op := Op.fieldAddr 46 (Operand.tmp 46) 4, type := 0, pos := "field.go:117", after := #[{ on := 9, ground := Ground.data }, { on := 0, ground := Ground.phase }, { on := 1, ground := Ground.phase }, { on := 2, ground := Ground.phase }, { on := 3, ground := Ground.phase }, { on := 4, ground := Ground.phase }, { on := 5, ground := Ground.phase }, { on := 6, ground := Ground.phase }, { on := 7, ground := Ground.phase }, { on := 8, ground := Ground.phase }], guard := none }) (v := .pointer (some ⟨p, 4, none⟩)) rfl (by kernel_rfl) (by kernel_rfl) (by kernel_rfl) (fun _ _ _ h => h) (Or.inl ⟨by rfl, ?_⟩) hHeld ?_
            · intro w hSw
              go_simp
            try simp only [Act.put, List.setIfInBounds_toArray, List.set_cons_zero, List.set_cons_succ]
            refine wpAnyH_ready (rs := [11]) (by kernel_rfl) (by simp) ?_
            refine AllReadyH.cons (o := { dst := none, op := Op.store 43 (Operand.tmp 47) (Operand.tmp 45), type := 0, pos := "field.go:117", after := #[{ on := 10, ground := Ground.data }, { on := 8, ground := Ground.data }, { on := 8, ground := Ground.chain }, { on := 0, ground := Ground.phase }, { on := 1, ground := Ground.phase }, { on := 2, ground := Ground.phase }, { on := 3, ground := Ground.phase }, { on := 4, ground := Ground.phase }, { on := 5, ground := Ground.phase }, { on := 6, ground := Ground.phase }, { on := 7, ground := Ground.phase }, { on := 8, ground := Ground.phase }], guard := none }) rfl (fun K hK => ?_) AllReadyH.nil
            go_simp
            refine hK.out _ _ ?_ (fun hHeld => ?_)
            · exact hbx8
            clear hK K
            try simp only [Act.put, List.setIfInBounds_toArray, List.set_cons_zero, List.set_cons_succ]
            refine wpAnyH_done (by kernel_rfl) ?_ _
            have R := hide hro8
            have R2 := hide hgr8
            clear hHeld hb8 hro8 hgr8 hbx8 hc4 hf4 hlt8 HMORE HROW HNEW
            generalize w8.setCell ⟨p, 4, none⟩ (.slice (some ⟨gg, 0, none⟩) (acc.length + 1) cap8) = w9 at *
            go_wp2
            go_roundw
            case rel => exact ⟨k + 1, q.2.1, acc ++ [q.1], by go_num, rfl, by omega, by have := unhide HACC; simp; omega, unhide HNX, unhide R2, _, unhide R⟩
            case measure => simp [intOf]; omega
        · have hq : (q.2.2 != 0) = true := by simpa using he
          have hres := hs2 he
          rw [hrl] at hres
          have hn := hr2 he
          have HF : ReadB w B p (reTo r RES.1, RES.2) (.returned (.tuple #[.int .i64 q.2.1, .int .i64 q.2.2])) wr := ⟨by rw [hres, hn], hg, fun h => by rw [hres] at h; exact absurd h he⟩
          clear hro hr1 hr2 hs1 hs2 hrl hd hd2 he hg hres hn
          go_wp2_with fail
          refine (unhide KR).mono ?_
          rintro e wr ⟨rfl, rfl⟩
          clear KR
          go_wp2
          go_ret2
          exact HF
      · have hkk : sz - k = 0 := by omega
        rw [hkk, (unhide HQ0)] at hrl
        have HF : ReadB w B p (reTo r RES.1, RES.2) (.returned (.tuple #[.int .i64 a, .int .i64 0])) wr := ⟨by rw [← hrl], hg, fun _ => ⟨vt, by rw [← hrl]; exact ⟨hro.1, hro.2.1.lower hB, hro.2.2⟩⟩⟩
        clear hro hrl hg KU HRU HRA HQ HQE HQ0 HR0 HRES HBX hkk
        go_wp2
        go_ret2
        exact HF
  · rw [if_pos (by simpa using he)]
    have hq0 : (q0.2.2 != 0) = true := by simpa using he
    have h2 := hat he
    have HF : ReadB w B p (r, at_, q0.2.2) (.returned (.tuple #[.int .i64 q0.2.1, .int .i64 q0.2.2])) w := ⟨by rw [h2], grown_refl _ _, fun h => absurd h he⟩
    clear hok hat he h2 KU HRU HRA HBX HR0 HQ HQE HQ0 hb
    generalize zs.length = m at *
    go_enter Tryz.func77, Tryz.ntmps77
    go_wp2_with fail
    refine (unhide K).mono ?_
    rintro e w1 ⟨rfl, rfl⟩
    clear K
    go_wp2
    go_ret2
    exact HF
end Go.Proofs.YtdnkfnccbmbpaaaGreatDoor
/- A part read, whatever it is; what stays true of a record under way. -/
namespace Go.Proofs.YtdnkfnccbmbpaaaGreatDoor
open Go.RowKit
open Wi

/-- What a part wants of the record to be read into. -/
def Rin (r : Rec) : Nat → Prop
  | 1 => 0 ≤ r.lo ∧ r.lo ≤ 1114111
  | 7 => r.to = []
  | _ => True
theorem Box.ne {w : World} {b B p : Nat} {u vt : Value} {r : Rec} (h : Box w b u) (hr : Ro w B p r vt) : b ≠ p := fun e => by
  subst e
  obtain ⟨T, hT, h1⟩ := h
  rw [hr.1] at h1
  simp only [Option.some.injEq, Obj.cells.injEq] at h1
  have h2 := h1.2.1
  subst h2
  revert hT
  decide
theorem read_any {w : World} {p f B : Nat} {x : Value × Value} {r : Rec} {vt v : Value} {zs : List Int} {at_ : Int} (hf : Fd w p f x) (hr : Ro w B p r vt) (hB : B ≤ w.heap.size) (hs : Sl w v zs) (hv : ∀ o g cap, v = .slice (some o) g cap → o.block ≠ p) (hi : Rin r f) :
    ∃ k b, x.2 = .func (.func k) #[] #[.pointer (some ⟨b, 0, none⟩)] ∧ Ent k ∧ Calls Tryz.prog k #[v, .int .i64 at_, .pointer (some ⟨b, 0, none⟩)] w (ReadB w B p (Pk.fr zs at_ r f)) := by
  match f, hf, hi with
  | 0, ⟨_, ⟨b, hx, u, hu, ⟨b2, hq, h2⟩⟩⟩, _ => subst hq; exact ⟨_, b, hx, enters_of Tryz.func104 (by kernel_rfl) rfl, num_read _ b b2 B p v zs at_ r _ w hs (enters_of Tryz.func73 (by kernel_rfl) rfl) hu.cell (fun n _ _ => span2_take p b2 B n r vt w h2.cell hr)⟩
  | 1, ⟨_, ⟨b, hx, u, hu, ⟨b2, hq, h2⟩⟩⟩, hi => subst hq; exact ⟨_, b, hx, enters_of Tryz.func104 (by kernel_rfl) rfl, num_read _ b b2 B p v zs at_ r _ w hs (enters_of Tryz.func75 (by kernel_rfl) rfl) hu.cell (fun n q1 q2 => span4_take p b2 B n r vt w (h2.ne hr) h2.cell hr q1 q2 hi.1 hi.2)⟩
  | 2, ⟨_, ⟨b, hx, u, hu, ⟨b2, hq, h2⟩⟩⟩, _ => subst hq; exact ⟨_, b, hx, enters_of Tryz.func104 (by kernel_rfl) rfl, num_read _ b b2 B p v zs at_ r _ w hs (enters_of Tryz.func84 (by kernel_rfl) rfl) hu.cell (fun n _ _ => alone2_take p b2 B n r vt w (h2.ne hr) h2.cell hr)⟩
  | 3, ⟨_, ⟨b, hx, u, hu, ⟨b2, hq, h2⟩⟩⟩, _ => subst hq; exact ⟨_, b, hx, enters_of Tryz.func104 (by kernel_rfl) rfl, num_read _ b b2 B p v zs at_ r _ w hs (enters_of Tryz.func80 (by kernel_rfl) rfl) hu.cell (fun n _ _ => plain2_take p b2 B n r vt w h2.cell hr)⟩
  | 4, ⟨_, ⟨b, hx, u, hu, ⟨b2, hq, h2⟩⟩⟩, _ => subst hq; exact ⟨_, b, hx, enters_of Tryz.func104 (by kernel_rfl) rfl, num_read _ b b2 B p v zs at_ r _ w hs (enters_of Tryz.func82 (by kernel_rfl) rfl) hu.cell (fun n q1 q2 => target2_take p b2 B n r vt w h2.cell hr hB q1 q2)⟩
  | 5, ⟨_, ⟨b, hx, u, hu, ⟨b2, hq, h2⟩⟩⟩, _ => subst hq; exact ⟨_, b, hx, enters_of Tryz.func107 (by kernel_rfl) rfl, text_read _ b b2 B p v zs at_ r _ w hs (enters_of Tryz.func87 (by kernel_rfl) rfl) hu.cell (fun s => name2_take p b2 B s r vt w h2.cell hr)⟩
  | 6, ⟨_, ⟨b, hx, u, hu, ⟨b2, hq, h2⟩⟩⟩, _ => subst hq; exact ⟨_, b, hx, enters_of Tryz.func107 (by kernel_rfl) rfl, text_read _ b b2 B p v zs at_ r _ w hs (enters_of Tryz.func93 (by kernel_rfl) rfl) hu.cell (fun s => other2_take p b2 B s r vt w h2.cell hr)⟩
  | 7, ⟨_, ⟨b, hx, hu⟩⟩, hi => exact ⟨_, b, hx, enters_of Tryz.func77 (by kernel_rfl) rfl, list_read b B p v zs at_ r vt w hs (hu.ne hr) hu.cell hr hi hB hv⟩
  | n + 8, ⟨_, ⟨b, hx, hu⟩⟩, _ => exact ⟨_, b, hx, enters_of Tryz.func90 (by kernel_rfl) rfl, weight_read b B p v zs at_ r vt w hs hu.cell hr⟩
theorem read_at {w : World} {p f B k b : Nat} {y : Value} {r : Rec} {vt v : Value} {zs : List Int} {at_ : Int} (hf : Fd w p f (y, .func (.func k) #[] #[.pointer (some ⟨b, 0, none⟩)])) (hr : Ro w B p r vt) (hB : B ≤ w.heap.size) (hs : Sl w v zs) (hv : ∀ o g cap, v = .slice (some o) g cap → o.block ≠ p) (hi : Rin r f) :
    Ent k ∧ Calls Tryz.prog k #[v, .int .i64 at_, .pointer (some ⟨b, 0, none⟩)] w (ReadB w B p (Pk.fr zs at_ r f)) := by
  obtain ⟨k', b', e, h1, h2⟩ := read_any (at_ := at_) hf hr hB hs hv hi
  simp only [Value.func.injEq, Fn.func.injEq, true_and, Array.mk.injEq, List.cons.injEq, Value.pointer.injEq, Option.some.injEq, Addr.mk.injEq, and_true] at e
  obtain ⟨rfl, rfl⟩ := e
  exact ⟨h1, h2⟩
/-- What stays true of a record under way, its parts fs being still to come. -/
def Riv (r : Rec) (fs : List Nat) : Prop := (0 ≤ r.lo ∧ r.lo ≤ 1114111) ∧ (7 ∈ fs → r.to = [])
/-- A list stands last, and no target ahead of it. -/
def Gd : List Nat → Bool
  | [] => true
  | f :: fs => (!(f == 4 || f == 7) || !(fs.contains 7)) && Gd fs
theorem form_gd {k : Int} (hf : Cn.fam k ≠ 0) : Gd (Pk.form k) = true := by
  rcases kinds15 hf with rfl | rfl | rfl | rfl | rfl | rfl | rfl | rfl | rfl | rfl | rfl | rfl | rfl | rfl | rfl <;> decide
theorem Riv.rin {r : Rec} {f : Nat} {fs : List Nat} (h : Riv r (f :: fs)) : Rin r f := by
  match f, h with
  | 0, _ => trivial
  | 1, h => exact h.1
  | 2, _ => trivial
  | 3, _ => trivial
  | 4, _ => trivial
  | 5, _ => trivial
  | 6, _ => trivial
  | 7, h => exact h.2 (by simp)
  | n + 8, _ => trivial
theorem rn_ok {zs : List Int} {at_ : Int} {r : Rec} {g : Int → Rec} (h : (Pk.rn zs at_ r g).2.2 = 0) : ∃ n, 0 ≤ n ∧ n ≤ 1114111 ∧ (Pk.rn zs at_ r g).1 = g n := by
  unfold Pk.rn at h ⊢
  by_cases h1 : (Pk.ru zs at_ 1114111).2.2 = 0
  · have := ru_ok zs at_ 1114111 h1
    rw [if_neg (by simpa using h1)]
    exact ⟨_, this.1, this.2.1, rfl⟩
  · rw [if_pos (by simpa using h1)] at h
    exact absurd h h1
theorem rs_ok {zs : List Int} {at_ : Int} {r : Rec} {g : ByteArray → Rec} (h : (Pk.rs zs at_ r g).2.2 = 0) : ∃ s, (Pk.rs zs at_ r g).1 = g s := by
  unfold Pk.rs at h ⊢
  by_cases h1 : (Ref.rt zs at_ 4).2.2 = 0
  · rw [if_neg (by simpa using h1)]
    exact ⟨_, rfl⟩
  · rw [if_pos (by simpa using h1)] at h
    exact absurd h h1
theorem Riv.on {r : Rec} {f : Nat} {fs : List Nat} {zs : List Int} {at_ : Int} (h : Riv r (f :: fs)) (hg : Gd (f :: fs) = true) (he : (Pk.fr zs at_ r f).2.2 = 0) : Riv (Pk.fr zs at_ r f).1 fs := by
  have keep : 7 ∈ fs → r.to = [] := fun hm => h.2 (by simp [hm])
  simp only [Gd, Bool.and_eq_true, Bool.or_eq_true, Bool.not_eq_true', Bool.or_eq_false_iff, beq_eq_false_iff_ne, List.contains_eq_mem, decide_eq_false_iff_not] at hg
  match f, h, he, hg with
  | 0, h, he, _ => obtain ⟨n, h0, h1, e⟩ := rn_ok he; rw [show (Pk.fr zs at_ r 0).1 = _ from e]; exact ⟨⟨h0, h1⟩, keep⟩
  | 1, h, he, _ => obtain ⟨n, h0, h1, e⟩ := rn_ok he; rw [show (Pk.fr zs at_ r 1).1 = _ from e]; exact ⟨h.1, keep⟩
  | 2, h, he, _ => obtain ⟨n, h0, h1, e⟩ := rn_ok he; rw [show (Pk.fr zs at_ r 2).1 = _ from e]; exact ⟨⟨h0, h1⟩, keep⟩
  | 3, h, he, _ => obtain ⟨n, h0, h1, e⟩ := rn_ok he; rw [show (Pk.fr zs at_ r 3).1 = _ from e]; exact ⟨h.1, keep⟩
  | 4, h, he, hg => obtain ⟨n, h0, h1, e⟩ := rn_ok he; rw [show (Pk.fr zs at_ r 4).1 = _ from e]; exact ⟨h.1, fun hm => absurd hm (hg.1.elim (fun q => absurd rfl q.1) id)⟩
  | 5, h, he, _ => obtain ⟨n, e⟩ := rs_ok he; rw [show (Pk.fr zs at_ r 5).1 = _ from e]; exact ⟨h.1, keep⟩
  | 6, h, he, _ => obtain ⟨n, e⟩ := rs_ok he; rw [show (Pk.fr zs at_ r 6).1 = _ from e]; exact ⟨h.1, keep⟩
  | 7, h, he, hg =>
    have e : Pk.fr zs at_ r 7 = if (Pk.ru zs at_ 24).2.2 ≠ 0 then (r, at_, (Pk.ru zs at_ 24).2.2) else (reTo r (Pk.rl zs (Pk.ru zs at_ 24).1.toNat (Pk.ru zs at_ 24).2.1 r.to).1, (Pk.rl zs (Pk.ru zs at_ 24).1.toNat (Pk.ru zs at_ 24).2.1 r.to).2) := rfl
    refine ⟨?_, fun hm => absurd hm (hg.1.elim (fun q => absurd rfl q.2) id)⟩
    rw [e]
    split
    · exact h.1
    · exact h.1
  | n + 8, h, he, _ =>
    have e : Pk.fr zs at_ r (n + 8) = if (Ref.rf zs at_).2.2 ≠ 0 then (r, at_, (Ref.rf zs at_).2.2) else ({ r with wt := (Ref.rf zs at_).1.toNat }, (Ref.rf zs at_).2.1, 0) := rfl
    rw [e]
    split
    · exact ⟨h.1, keep⟩
    · exact ⟨h.1, keep⟩
end Go.Proofs.YtdnkfnccbmbpaaaGreatDoor
/- A record read: readRecord. -/
namespace Go.Proofs.YtdnkfnccbmbpaaaGreatDoor
open Go.RowKit
open Wi

/-- What readRecord answers. -/
def RrB (w : World) (x : Rec × Int × Int) (e : Ending) (w' : World) : Prop := ∃ vt, e = .returned (.tuple #[.agg (rarr x.1 vt), .int .i64 x.2.1, .int .i64 x.2.2]) ∧ Ok .i32 21 w' w.heap.size vt x.1.to ∧ Below w.heap.size w w'
/-- The record under way, its parts, the frame. -/
structure Rst (w wr : World) (p : Nat) (vf : Value) (fs : List Nat) (r : Rec) : Prop where
  bel : Below w.heap.size w wr
  at_ : w.heap.size ≤ p
  ro : ∃ vt, Ro wr w.heap.size p r vt
  fds : Fds wr w.heap.size p vf fs
theorem Rst.below {w wr w' : World} {p : Nat} {vf : Value} {fs : List Nat} {r : Rec} (h : Rst w wr p vf fs r) (hb : Below wr.heap.size wr w') : Rst w w' p vf fs r := by
  obtain ⟨vt, hr⟩ := h.ro
  obtain ⟨ys, h1, h2, h3⟩ := h.fds
  exact ⟨bthen h.bel hb, h.at_, ⟨vt, hr.below hb⟩, ⟨ys, h1, own_keep h2 fun g hg => hb.block g (h2.lt g hg).2, fun i hi => (h3 i hi).below hb⟩⟩
theorem Rst.read {w wr w' : World} {p : Nat} {vf : Value} {fs : List Nat} {r r' : Rec} (h : Rst w wr p vf fs r) (hg : wr.grownBy w' (some p)) (hr' : ∃ vt, Ro w' w.heap.size p r' vt) : Rst w w' p vf fs r' := by
  obtain ⟨vt, hr⟩ := h.ro
  obtain ⟨ys, h1, h2, h3⟩ := h.fds
  have hkeep : Bxs wr w' := Bxs.grown hg fun k hk => by
    simp only [Option.some.injEq] at hk
    subst hk
    exact ⟨_, _, _, by decide, hr.1⟩
  refine ⟨h.bel.grown hg h.bel.size (fun k hk => by simp only [Option.some.injEq] at hk; subst hk; exact h.at_), h.at_, hr', ⟨ys, h1, own_keep h2 fun g hg' => hg.block g (h2.lt g hg').2 (fun e => ?_), fun i hi => (h3 i hi).keep hkeep⟩⟩
  simp only [Option.some.injEq] at e
  subst e
  obtain ⟨cur, hc⟩ := own_tag h2 hg'
  rw [hr.1] at hc; simp at hc
theorem frs_step (zs : List Int) (fs : List Nat) (j : Nat) (a : Int) (r : Rec) (hj : j < fs.length) : Pk.frs zs (fs.drop j) a r = if (Pk.fr zs a r (fs.getD j 0)).2.2 ≠ 0 then Pk.fr zs a r (fs.getD j 0) else Pk.frs zs (fs.drop (j + 1)) (Pk.fr zs a r (fs.getD j 0)).2.1 (Pk.fr zs a r (fs.getD j 0)).1 := by
  rw [List.drop_eq_getElem_cons hj, Pk.frs]
  simp [List.getD, hj]
theorem gd_drop {fs : List Nat} (h : Gd fs = true) : ∀ j, Gd (fs.drop j) = true := by
  intro j
  induction j generalizing fs with
  | zero => exact h
  | succ j ih =>
    cases fs with
    | nil => rfl
    | cons f fs => simp only [Gd, Bool.and_eq_true] at h; exact ih h.2
theorem rarr_none : rarr Cn.none (.slice none 0 0) = #[.int .i64 0, .int .i64 0, .int .i64 0, .int .i64 0, .slice none 0 0, .string ⟨#[]⟩, .string ⟨#[]⟩, .float .f64 0] := rfl
set_option maxHeartbeats 1000000 in
theorem rr_end (v : Value) (zs : List Int) (w : World) (hs : Sl w v zs) : Calls Tryz.prog 62 #[v, .int .i64 (zs.length : Int)] w (RrB w (Pk.rr zs zs.length)) := by
  have e : Pk.rr zs zs.length = (Cn.none, (zs.length : Int), 10) := by unfold Pk.rr; rw [if_pos rfl]
  rw [e]
  have hl := hs.len
  obtain ⟨ao, cap, rfl, _, _⟩ := hs.shape
  clear hs e
  generalize zs.length = m at *
  have hfl : ∀ W a m, (store a (.float .f64 0) m).run Tryz.prog W = stored Tryz.prog W a (.float .f64 0) m := fun W a m => run_store Tryz.prog W a _ m rfl
  go_enter Tryz.func62, Tryz.ntmps62
  go_wp2
  refine bodyPost_ret (v := .tuple #[.agg #[.int .i64 0, .int .i64 0, .int .i64 0, .int .i64 0, .slice none 0 0, .string ⟨#[]⟩, .string ⟨#[]⟩, .float .f64 0], .int .i64 (m : Int), .int .i64 10]) (by simp [results, Tryz.results62, go_sem]) rfl ⟨.slice none 0 0, rfl, Ok.nil _ _ _ _, ?_⟩
  exact (Below.refl _ _).alloc (Nat.le_refl _) _
end Go.Proofs.YtdnkfnccbmbpaaaGreatDoor
/- readRecord, walked. -/
namespace Go.Proofs.YtdnkfnccbmbpaaaGreatDoor
open Go.RowKit
open Wi

theorem set1_blk {w : World} {g j : Nat} {C C' : Array Value} (a : Value) (h : w.heap[g]? = some (.cells C 46 (0, 0))) (hC : C.setIfInBounds j a = C') : (w.setCell ⟨g, j, none⟩ a).heap[g]? = some (.cells C' 46 (0, 0)) := by
  rw [set_block h, hC]
theorem set8_blk {w : World} {g : Nat} {c0 c1 c2 c3 c4 c5 c6 c7 : Value} (a0 a1 a2 a3 a4 a5 a6 a7 : Value) (h : w.heap[g]? = some (.cells #[c0, c1, c2, c3, c4, c5, c6, c7] 46 (0, 0))) : (World.setCell (World.setCell (World.setCell (World.setCell (World.setCell (World.setCell (World.setCell (World.setCell w ⟨g, 0, none⟩ a0) ⟨g, 1, none⟩ a1) ⟨g, 2, none⟩ a2) ⟨g, 3, none⟩ a3) ⟨g, 4, none⟩ a4) ⟨g, 5, none⟩ a5) ⟨g, 6, none⟩ a6) ⟨g, 7, none⟩ a7).heap[g]? = some (.cells #[a0, a1, a2, a3, a4, a5, a6, a7] 46 (0, 0)) := by
  have h0 := set1_blk (j := 0) (C' := #[a0, c1, c2, c3, c4, c5, c6, c7]) a0 h (by simp)
  have h1 := set1_blk (j := 1) (C' := #[a0, a1, c2, c3, c4, c5, c6, c7]) a1 h0 (by simp)
  have h2 := set1_blk (j := 2) (C' := #[a0, a1, a2, c3, c4, c5, c6, c7]) a2 h1 (by simp)
  have h3 := set1_blk (j := 3) (C' := #[a0, a1, a2, a3, c4, c5, c6, c7]) a3 h2 (by simp)
  have h4 := set1_blk (j := 4) (C' := #[a0, a1, a2, a3, a4, c5, c6, c7]) a4 h3 (by simp)
  have h5 := set1_blk (j := 5) (C' := #[a0, a1, a2, a3, a4, a5, c6, c7]) a5 h4 (by simp)
  have h6 := set1_blk (j := 6) (C' := #[a0, a1, a2, a3, a4, a5, a6, c7]) a6 h5 (by simp)
  have h7 := set1_blk (j := 7) (C' := #[a0, a1, a2, a3, a4, a5, a6, a7]) a7 h6 (by simp)
  exact h7
theorem set8_far {w : World} {g k : Nat} (a0 a1 a2 a3 a4 a5 a6 a7 : Value) (h : k ≠ g) : (World.setCell (World.setCell (World.setCell (World.setCell (World.setCell (World.setCell (World.setCell (World.setCell w ⟨g, 0, none⟩ a0) ⟨g, 1, none⟩ a1) ⟨g, 2, none⟩ a2) ⟨g, 3, none⟩ a3) ⟨g, 4, none⟩ a4) ⟨g, 5, none⟩ a5) ⟨g, 6, none⟩ a6) ⟨g, 7, none⟩ a7).heap[k]? = w.heap[k]? := by
  rw [set_other _ h, set_other _ h, set_other _ h, set_other _ h, set_other _ h, set_other _ h, set_other _ h, set_other _ h]
theorem set8_below {B : Nat} {u w : World} {g : Nat} (a0 a1 a2 a3 a4 a5 a6 a7 : Value) (h : Below B u w) (hg : B ≤ g) : Below B u (World.setCell (World.setCell (World.setCell (World.setCell (World.setCell (World.setCell (World.setCell (World.setCell w ⟨g, 0, none⟩ a0) ⟨g, 1, none⟩ a1) ⟨g, 2, none⟩ a2) ⟨g, 3, none⟩ a3) ⟨g, 4, none⟩ a4) ⟨g, 5, none⟩ a5) ⟨g, 6, none⟩ a6) ⟨g, 7, none⟩ a7) :=
  below_set (below_set (below_set (below_set (below_set (below_set (below_set (below_set h hg _) hg _) hg _) hg _) hg _) hg _) hg _) hg _
theorem set8_size (w : World) (g : Nat) (a0 a1 a2 a3 a4 a5 a6 a7 : Value) : (World.setCell (World.setCell (World.setCell (World.setCell (World.setCell (World.setCell (World.setCell (World.setCell w ⟨g, 0, none⟩ a0) ⟨g, 1, none⟩ a1) ⟨g, 2, none⟩ a2) ⟨g, 3, none⟩ a3) ⟨g, 4, none⟩ a4) ⟨g, 5, none⟩ a5) ⟨g, 6, none⟩ a6) ⟨g, 7, none⟩ a7).heap.size = w.heap.size := by
  rw [set_size, set_size, set_size, set_size, set_size, set_size, set_size, set_size]
/-- The eight cells of a block. -/
theorem cells8 {w : World} {g : Nat} {c0 c1 c2 c3 c4 c5 c6 c7 : Value} (h : w.heap[g]? = some (.cells #[c0, c1, c2, c3, c4, c5, c6, c7] 46 (0, 0))) : w.cell? ⟨g, 0, none⟩ = some c0 ∧ w.cell? ⟨g, 1, none⟩ = some c1 ∧ w.cell? ⟨g, 2, none⟩ = some c2 ∧ w.cell? ⟨g, 3, none⟩ = some c3 ∧ w.cell? ⟨g, 4, none⟩ = some c4 ∧ w.cell? ⟨g, 5, none⟩ = some c5 ∧ w.cell? ⟨g, 6, none⟩ = some c6 ∧ w.cell? ⟨g, 7, none⟩ = some c7 :=
  ⟨cell_of (j := 0) h (by show 0 < 8; omega), cell_of (j := 1) h (by show 1 < 8; omega), cell_of (j := 2) h (by show 2 < 8; omega), cell_of (j := 3) h (by show 3 < 8; omega), cell_of (j := 4) h (by show 4 < 8; omega), cell_of (j := 5) h (by show 5 < 8; omega), cell_of (j := 6) h (by show 6 < 8; omega), cell_of (j := 7) h (by show 7 < 8; omega)⟩
set_option maxHeartbeats 2000000 in
theorem rr_kind (v : Value) (zs : List Int) (n : Nat) (w : World) (hgl : Glob w) (hs : Sl w v zs) (hn : n < zs.length) (hf : Cn.fam (zs.getD n 0) = 0) : Calls Tryz.prog 62 #[v, .int .i64 (n : Int)] w (RrB w (Pk.rr zs n)) := by
  have e : Pk.rr zs n = (Cn.none, (n : Int), 60) := by unfold Pk.rr; rw [if_neg (by omega), Int.toNat_natCast, if_pos hf]
  rw [e]
  have hl := hs.len
  obtain ⟨b, off, cap, rfl, hc1, hc2, hc⟩ := hs.place (by omega)
  have x0 := hc n hn
  have hby := hs.1.at n
  rw [← List.getD_eq_getElem?_getD] at hby
  have KF : Hid (∀ W, Below w.heap.size w W → Calls Tryz.prog 68 #[.int .i64 (zs.getD n 0)] W (IntB W (Cn.fam (zs.getD n 0)))) := fun W hW => family_any _ W (hgl.on hW) ⟨by omega, by omega⟩
  rw [hf] at KF
  have hq : ((n : Int) == (zs.length : Int)) = false := by rw [beq_eq_false_iff_ne]; omega
  have hq2 : (n : Int) < (zs.length : Int) := by omega
  have hll : zs.length ≤ 140737488355328 := hl
  clear hs e hc hf hgl
  generalize zs.getD n 0 = c at *
  generalize zs.length = m at *
  have hfl : ∀ W a m, (store a (.float .f64 0) m).run Tryz.prog W = stored Tryz.prog W a (.float .f64 0) m := fun W a m => run_store Tryz.prog W a _ m rfl
  have x1 : ∀ o, (w.alloc o).cell? ⟨b, off + n, none⟩ = some (.int .u8 c) := fun o => cell_old o x0
  go_enter Tryz.func62, Tryz.ntmps62
  go_wp2_with fail
  refine ((unhide KF) _ (((Below.refl _ _).alloc (Nat.le_refl _) _).alloc (by simp) _)).mono ?_
  rintro e w1 ⟨rfl, hb⟩
  obtain ⟨hcc, hff⟩ := bcell hb
  have hz : w.heap.size + 1 < w1.heap.size := by have := hb.size; simp at this; omega
  have HB : Hid (Below w.heap.size w w1) := (((Below.refl _ _).alloc (Nat.le_refl _) _).alloc (by simp) _).trans (hb.mono (by simp; omega))
  have HBK : Hid (w1.heap[w.heap.size]? = some (.cells #[.int .i64 0, .int .i64 0, .int .i64 0, .int .i64 0, .slice none 0 0, .string ⟨#[]⟩, .string ⟨#[]⟩, .float .f64 0] 46 (0, 0))) := by
    show w1.heap[w.heap.size]? = _
    rw [hb.block _ (by simp; omega)]
    show ((w.heap.push _).push _)[w.heap.size]? = _
    rw [Array.getElem?_push, Array.getElem?_push]; simp
  simp only [World.size_alloc] at hcc hff
  have y0 : ∀ j, w1.cell? ⟨w.heap.size, j, none⟩ = (#[Value.int .i64 0, .int .i64 0, .int .i64 0, .int .i64 0, .slice none 0 0, .string ⟨#[]⟩, .string ⟨#[]⟩, .float .f64 0] : Array Value)[j]? := fun j => by
    rw [hcc _ _ (by omega)]
    simp
  have y1 : ∀ j, w1.frozen? ⟨w.heap.size, j, none⟩ = false := fun j => by
    rw [hff _ _ (by omega)]
    simp
  clear KF hb hcc hff x0 x1
  have hblk : w1.heap[w.heap.size]? = some (.cells #[.int .i64 0, .int .i64 0, .int .i64 0, .int .i64 0, .slice none 0 0, .string ⟨#[]⟩, .string ⟨#[]⟩, .float .f64 0] 46 (0, 0)) := unhide HBK
  have hnew := set8_blk (.int .i64 0) (.int .i64 0) (.int .i64 0) (.int .i64 0) (.slice none 0 0) (.string ⟨#[]⟩) (.string ⟨#[]⟩) (.float .f64 0) hblk
  have hbel := set8_below (.int .i64 0) (.int .i64 0) (.int .i64 0) (.int .i64 0) (.slice none 0 0) (.string ⟨#[]⟩) (.string ⟨#[]⟩) (.float .f64 0) (unhide HB) (Nat.le_refl _)
  have HN := hide hnew
  have HL := hide hbel
  clear hnew hbel hblk HB HBK
  go_wp2
  have hnew := unhide HN
  have hbel := unhide HL
  clear HN HL y0 y1
  generalize (World.setCell (World.setCell (World.setCell (World.setCell (World.setCell (World.setCell (World.setCell (World.setCell w1 ⟨w.heap.size, 0, none⟩ (.int .i64 0)) ⟨w.heap.size, 1, none⟩ (.int .i64 0)) ⟨w.heap.size, 2, none⟩ (.int .i64 0)) ⟨w.heap.size, 3, none⟩ (.int .i64 0)) ⟨w.heap.size, 4, none⟩ (.slice none 0 0)) ⟨w.heap.size, 5, none⟩ (.string ⟨#[]⟩)) ⟨w.heap.size, 6, none⟩ (.string ⟨#[]⟩)) ⟨w.heap.size, 7, none⟩ (.float .f64 0)) = w9 at *
  obtain ⟨z0, z1, z2, z3, z4, z5, z6, z7⟩ := cells8 hnew
  refine bodyPost_ret (v := .tuple #[.agg #[.int .i64 0, .int .i64 0, .int .i64 0, .int .i64 0, .slice none 0 0, .string ⟨#[]⟩, .string ⟨#[]⟩, .float .f64 0], .int .i64 (n : Int), .int .i64 60]) (by simp [results, Tryz.results62, go_sem, z0, z1, z2, z3, z4, z5, z6, z7]) rfl ⟨.slice none 0 0, rfl, Ok.nil _ _ _ _, hbel⟩
end Go.Proofs.YtdnkfnccbmbpaaaGreatDoor
