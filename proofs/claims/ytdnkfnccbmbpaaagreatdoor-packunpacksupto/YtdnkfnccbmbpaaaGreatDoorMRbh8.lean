/- The document's reader of a record: what stands behind its kind (8.2). -/
import Derived.Test.YtdnkfnccbmbpaaaGreatDoorHb8
import Derived.Deep.QuietTactic
import Derived.Deep.AppendLies
namespace Go.Proofs.YtdnkfnccbmbpaaaGreatDoor
open Go.RowKit
open Wi

theorem ls_S (zs : List Int) (x : Rec) (a e : Int) : Pk.ls zs 83 x a e = (⟨x.kind, (Pk.uR zs a e 1114111).1, (Pk.uR zs a e 1114111).1 + (Pk.uR zs (Pk.uR zs a e 1114111).2.1 (Pk.uR zs a e 1114111).2.2 1114111).1, x.n, x.to, x.name, x.other, x.wt⟩, (Pk.uR zs (Pk.uR zs a e 1114111).2.1 (Pk.uR zs a e 1114111).2.2 1114111).2) := rfl
theorem ls_L (zs : List Int) (x : Rec) (a e : Int) : Pk.ls zs 76 x a e = (⟨x.kind, (Pk.uR zs a e 1114111).1, (Pk.uR zs a e 1114111).1, x.n, x.to, x.name, x.other, x.wt⟩, (Pk.uR zs a e 1114111).2) := rfl
theorem ls_N (zs : List Int) (x : Rec) (a e : Int) : Pk.ls zs 78 x a e = (⟨x.kind, x.lo, x.hi, (Pk.uR zs a e 1114111).1, x.to, x.name, x.other, x.wt⟩, (Pk.uR zs a e 1114111).2) := rfl
theorem ls_T (zs : List Int) (x : Rec) (a e : Int) : Pk.ls zs 84 x a e = (⟨x.kind, x.lo, x.hi, x.n, [(Pk.uR zs a e 1114111).1], x.name, x.other, x.wt⟩, (Pk.uR zs a e 1114111).2) := rfl
theorem ls_x (zs : List Int) (x : Rec) (a e : Int) : Pk.ls zs 120 x a e = (⟨x.kind, x.lo, x.hi, x.n, (Pk.lx zs (Pk.uR zs a e 24).1.toNat x.to (Pk.uR zs a e 24).2.1 (Pk.uR zs a e 24).2.2).1, x.name, x.other, x.wt⟩, (Pk.lx zs (Pk.uR zs a e 24).1.toNat x.to (Pk.uR zs a e 24).2.1 (Pk.uR zs a e 24).2.2).2) := rfl
theorem ls_n (zs : List Int) (x : Rec) (a e : Int) : Pk.ls zs 110 x a e = (⟨x.kind, x.lo, x.hi, x.n, x.to, (rtx zs a e).1, x.other, x.wt⟩, (rtx zs a e).2) := rfl
theorem ls_o (zs : List Int) (x : Rec) (a e : Int) : Pk.ls zs 111 x a e = (⟨x.kind, x.lo, x.hi, x.n, x.to, x.name, (rtx zs a e).1, x.wt⟩, (rtx zs a e).2) := rfl
theorem ls_W (zs : List Int) (c : Int) (x : Rec) (a e : Int) (h1 : c ≠ 83) (h2 : c ≠ 76) (h3 : c ≠ 78) (h4 : c ≠ 84) (h5 : c ≠ 120) (h6 : c ≠ 110) (h7 : c ≠ 111) : Pk.ls zs c x a e = (⟨x.kind, x.lo, x.hi, x.n, x.to, x.name, x.other, (rfx zs a e).1⟩, (rfx zs a e).2) := by
  unfold Pk.ls
  rw [if_neg h1, if_neg h2, if_neg h3, if_neg h4, if_neg h5, if_neg h6, if_neg h7]
theorem lx_step (zs : List Int) (k : Nat) (acc : List Int) (a : Int) : Pk.lx zs (k + 1) acc a 0 = Pk.lx zs k (acc ++ [(Pk.uR zs a 0 1114111).1]) (Pk.uR zs a 0 1114111).2.1 (Pk.uR zs a 0 1114111).2.2 := rfl
theorem fstr_small (k : Int) (h : 1 ≤ k ∧ k ≤ 15) : (fstr k).size ≤ 3 := by
  have hk15 : k = 1 ∨ k = 2 ∨ k = 3 ∨ k = 4 ∨ k = 5 ∨ k = 6 ∨ k = 7 ∨ k = 8 ∨ k = 9 ∨ k = 10 ∨ k = 11 ∨ k = 12 ∨ k = 13 ∨ k = 14 ∨ k = 15 := by omega
  rcases hk15 with rfl | rfl | rfl | rfl | rfl | rfl | rfl | rfl | rfl | rfl | rfl | rfl | rfl | rfl | rfl
  all_goals decide
set_option maxRecDepth 8000 in
set_option maxHeartbeats 8000000 in
theorem docRecord_main (p : Nat) (bv : Value) (zs : List Int) (n : Nat) (W0 : World) (h : RdAt W0 p bv n 0) (hs : Sl W0 bv zs) (hv : ∀ o g cap, bv = .slice (some o) g cap → o.block ≠ p) (hn : n < zs.length) (hf : Cn.fam (zs.getD n 0) ≠ 0) : Calls Tryz.prog 38 #[.pointer (some ⟨p, 0, none⟩)] W0 (DrB W0 p bv (Pk.lss zs (nums (fstr (zs.getD n 0))) ⟨zs.getD n 0, 0, 0, 0, [], ⟨#[]⟩, ⟨#[]⟩, 0⟩ ((n : Int) + 1) 0)) := by
  obtain ⟨i0, hi0, hz0, hz1, hz2⟩ := info_parts Tryz.info21
  have hlen := hs.len
  obtain ⟨b, off, cap, rfl, hc1, hc2, hc⟩ := hs.place (by omega)
  obtain ⟨W1, W2, hW1, hW2, hD⟩ := dst_new h
  have hby := hs.1.at n
  rw [← List.getD_eq_getElem?_getD] at hby
  have x0 := hD.rd.cells.1
  have x1 := hD.rd.cells.2.1
  have HBY : Hid (∀ W, W0.grownBy W (some p) → W.cell? ⟨b, off + n, none⟩ = some (.int .u8 (zs.getD n 0))) := fun W hg => by
    have hb : b ≠ p := hv _ _ _ rfl
    rw [cell_kept (w := W0) (hg.block b (lt_of_cell? (hc n hn)) (fun e => hb (by simpa using e)))]
    exact hc n hn
  have HD : Hid (∀ n', Dst W0 (W2.drewN n') p W0.heap.size W1.heap.size (.slice (some ⟨b, off, none⟩) zs.length cap) Cn.none (.slice none 0 0) (n : Int) 0) := fun n' => hD.drew n'
  have KF : Hid (∀ W, Calls Tryz.prog 51 #[.int .i64 (zs.getD n 0)] W fun e w' => e = .returned (.int .i64 (Cn.fam (zs.getD n 0))) ∧ w' = W) := fun W => refFamily_any _ W ⟨by omega, by omega⟩
  have hwc : IntKind.i64.wrap (zs.getD n 0) = zs.getD n 0 := by rw [IntKind.wrap_i64]; omega
  have hq : ((n : Int) == (zs.length : Int)) = false := by rw [beq_eq_false_iff_ne]; omega
  have hq2 : (n : Int) < (zs.length : Int) := by omega
  have hkk := Cn.fam_kinds hf
  have KFM : Hid (∀ W, Calls Tryz.prog 30 #[.int .i64 (zs.getD n 0)] W fun e w' => e = .returned (.string (fstr (zs.getD n 0))) ∧ w' = W) := fun W => refForm_any _ W hkk
  have KU : Hid (∀ W x vt a e most, Dst W0 W p W0.heap.size W1.heap.size (.slice (some ⟨b, off, none⟩) zs.length cap) x vt a e → Calls Tryz.prog 63 #[.pointer (some ⟨p, 0, none⟩), .int .i64 most] W (fun r W' => r = .returned (.int .i64 (Pk.uR zs a e most).1) ∧ Dst W0 W' p W0.heap.size W1.heap.size (.slice (some ⟨b, off, none⟩) zs.length cap) x vt (Pk.uR zs a e most).2.1 (Pk.uR zs a e most).2.2)) := fun W x vt a e most hd => dst_uint hs hv W x vt a e most hd
  have KT : Hid (∀ W x vt a e, Dst W0 W p W0.heap.size W1.heap.size (.slice (some ⟨b, off, none⟩) zs.length cap) x vt a e → Calls Tryz.prog 64 #[.pointer (some ⟨p, 0, none⟩)] W (fun r W' => r = .returned (.string (rtx zs a e).1) ∧ Dst W0 W' p W0.heap.size W1.heap.size (.slice (some ⟨b, off, none⟩) zs.length cap) x vt (rtx zs a e).2.1 (rtx zs a e).2.2)) := fun W x vt a e hd => dst_text hs hv W x vt a e hd
  have KW : Hid (∀ W x vt a e, Dst W0 W p W0.heap.size W1.heap.size (.slice (some ⟨b, off, none⟩) zs.length cap) x vt a e → Calls Tryz.prog 65 #[.pointer (some ⟨p, 0, none⟩)] W (fun r W' => r = .returned (.float .f64 (rfx zs a e).1) ∧ Dst W0 W' p W0.heap.size W1.heap.size (.slice (some ⟨b, off, none⟩) zs.length cap) x vt (rfx zs a e).2.1 (rfx zs a e).2.2)) := fun W x vt a e hd => dst_float hs hv W x vt a e hd
  have HUR : Hid (∀ a e most, 0 ≤ most → 0 ≤ (Pk.uR zs a e most).1 ∧ (Pk.uR zs a e most).1 ≤ most) := fun a e most hm => Pk.uR_range zs a e most hm
  have hfs := fstr_small (zs.getD n 0) hkk
  have hfq : (Cn.fam (zs.getD n 0) == 0) = false := beq_eq_false_iff_ne.2 hf
  have hwn : IntKind.i64.wrap ((n : Int) + 1) = (n : Int) + 1 := by rw [IntKind.wrap_i64]; omega
  clear h hs hc hf hv hD hkk
  generalize fstr (zs.getD n 0) = fs at *
  generalize Cn.fam (zs.getD n 0) = fm at *
  generalize zs.getD n 0 = c at *
  generalize zs.length = m at *
  generalize hRES : Pk.lss zs (nums fs) ⟨c, 0, 0, 0, [], ⟨#[]⟩, ⟨#[]⟩, 0⟩ ((n : Int) + 1) 0 = RES at *
  have HRS0 := hide hRES
  clear hRES
  have hfl := nums_length fs
  have HIX : Hid (∀ k, k < fs.size → ∀ w, (Instr.index 9 (.string fs) (.int .i64 (k : Int))).run Tryz.prog w = .ok (.int .u8 ((nums fs).getD k 0)) w) := fun k h w => run_at fs _ k rfl h w
  have HCB : Hid (∀ k, 0 ≤ (nums fs).getD k 0 ∧ (nums fs).getD k 0 ≤ 255) := fun k => (nums_byt fs).at k
  have HSTEP : Hid (∀ k x0 a0, k < fs.size → Pk.lss zs ((nums fs).take (k + 1)) x0 a0 0 = Pk.ls zs ((nums fs).getD k 0) (Pk.lss zs ((nums fs).take k) x0 a0 0).1 (Pk.lss zs ((nums fs).take k) x0 a0 0).2.1 (Pk.lss zs ((nums fs).take k) x0 a0 0).2.2) := fun k x0 a0 hk => by
    have e : (nums fs).take (k + 1) = (nums fs).take k ++ [(nums fs).getD k 0] := by
      rw [List.take_succ_eq_append_getElem (by omega)]
      simp [List.getD, hfl, hk]
    rw [e, Pk.lss_snoc]
  have HEND : Hid (∀ x0 a0, Pk.lss zs (nums fs) x0 a0 0 = Pk.lss zs ((nums fs).take fs.size) x0 a0 0) := fun x0 a0 => by rw [← hfl, List.take_length]
  have HNIL : Hid (∀ x0 a0, Pk.lss zs ((nums fs).take 0) x0 a0 0 = (x0, a0, 0)) := fun x0 a0 => rfl
  have hfw : ∀ u W a m, (store a (.float .f64 u) m).run Tryz.prog W = stored Tryz.prog W a (.float .f64 u) m := fun u W a m => run_store Tryz.prog W a _ m rfl
  go_enter Tryz.func38, Tryz.ntmps38
  go_wp2
  go_quiet (fail)
  all_goals
    have hD := (unhide HD) nq
    clear HD hW1 hW2 x0 x1
    generalize W2.drewN nq = W3 at *
    go_wp2
    have x0 := (hD.drew 1).rd.cells.1
    have x1 := (hD.drew 1).rd.cells.2.1
    have xb := (unhide HBY) _ (hD.drew 1).gr
    have c0 := hD.cells.1
    have fz := hD.soft 0
    have hD5 : Dst W0 ((W3.setCell ⟨W1.heap.size, 0, none⟩ (.int .i64 c)).drew) p W0.heap.size W1.heap.size (.slice (some ⟨b, off, none⟩) m cap) ⟨c, 0, 0, 0, [], ⟨#[]⟩, ⟨#[]⟩, 0⟩ (.slice none 0 0) (n : Int) 0 := (hD.put (x' := ⟨c, 0, 0, 0, [], ⟨#[]⟩, ⟨#[]⟩, 0⟩) 0 (.int .i64 c) rfl rfl).drew 1
    have HS5 : Hid (((W3.setCell ⟨W1.heap.size, 0, none⟩ (.int .i64 c)).drew).cell? ⟨p, 0, none⟩ = some (.slice (some ⟨b, off, none⟩) m cap) ∧ ((W3.setCell ⟨W1.heap.size, 0, none⟩ (.int .i64 c)).drew).cell? ⟨p, 1, none⟩ = some (.int .i64 (n : Int)) ∧ ((W3.setCell ⟨W1.heap.size, 0, none⟩ (.int .i64 c)).drew).cell? ⟨b, off + n, none⟩ = some (.int .u8 c)) := ⟨hD5.rd.cells.1, hD5.rd.cells.2.1, (unhide HBY) _ hD5.gr⟩
    have HD5 := hide hD5
    clear hD5 hD
    refine wp_region_held_drew (S := fun w' => w'.cell? ⟨p, 0, none⟩ = some (.slice (some ⟨b, off, none⟩) m cap) ∧ w'.cell? ⟨p, 1, none⟩ = some (.int .i64 (n : Int)) ∧ w'.cell? ⟨b, off + n, none⟩ = some (.int .u8 c)) (by kernel_rfl) ⟨x0, x1, xb⟩ (fun hHeld => ?_)
    refine wpAnyH_take (i := 0) (oi := { dst := some 22, op := Op.move (Operand.tmp 0), type := 74, pos := "ref.go:170", after := #[], guard := none }) (v := .pointer (some ⟨p, 0, none⟩)) rfl (by kernel_rfl) (by kernel_rfl) (by kernel_rfl) (fun _ _ _ h => h) (Or.inl ⟨by rfl, ?_⟩) hHeld ?_
    · intro w hSw
      go_simp
    try simp only [Act.put, List.setIfInBounds_toArray, List.set_cons_zero, List.set_cons_succ]
    refine wpAnyH_take (i := 1) (oi := { dst := some 23, op := Op.nilCheck (Operand.tmp 22), type := 0, pos := "ref.go:170", after := #[{ on := 0, ground := Ground.data }], guard := none }) (v := .pointer (some ⟨p, 0, none⟩)) rfl (by kernel_rfl) (by kernel_rfl) (by kernel_rfl) (fun _ _ _ h => h) (Or.inl ⟨by rfl, ?_⟩) hHeld ?_
    · intro w hSw
      go_simp
    try simp only [Act.put, List.setIfInBounds_toArray, List.set_cons_zero, List.set_cons_succ]
    refine wpAnyH_take (i := 2) (oi := { dst := some 24, op := Op.fieldAddr 76 (Operand.tmp 23) 0, type := 0, pos := "ref.go:170", after := #[{ on := 1, ground := Ground.data }], guard := none }) (v := .pointer (some ⟨p, 0, none⟩)) rfl (by kernel_rfl) (by kernel_rfl) (by kernel_rfl) (fun _ _ _ h => h) (Or.inl ⟨by rfl, ?_⟩) hHeld ?_
    · intro w hSw
      go_simp
    try simp only [Act.put, List.setIfInBounds_toArray, List.set_cons_zero, List.set_cons_succ]
    refine wpAnyH_take (i := 3) (oi := { dst := some 25, op := Op.load 24 (Operand.tmp 24), type := 24, pos := "ref.go:170", after := #[{ on := 2, ground := Ground.data }], guard := none }) (v := .slice (some ⟨b, off, none⟩) m cap) rfl (by kernel_rfl) (by kernel_rfl) (by kernel_rfl) (fun _ _ _ h => h) (Or.inl ⟨by rfl, ?_⟩) hHeld ?_
    · intro w hSw
      obtain ⟨s0, s1, s2⟩ := hSw; go_simp
    try simp only [Act.put, List.setIfInBounds_toArray, List.set_cons_zero, List.set_cons_succ]
    refine wpAnyH_take (i := 4) (oi := { dst := some 26, op := Op.move (Operand.tmp 0), type := 74, pos := "ref.go:170", after := #[], guard := none }) (v := .pointer (some ⟨p, 0, none⟩)) rfl (by kernel_rfl) (by kernel_rfl) (by kernel_rfl) (fun _ _ _ h => h) (Or.inl ⟨by rfl, ?_⟩) hHeld ?_
    · intro w hSw
      go_simp
    try simp only [Act.put, List.setIfInBounds_toArray, List.set_cons_zero, List.set_cons_succ]
    refine wpAnyH_take (i := 5) (oi := { dst := some 27, op := Op.nilCheck (Operand.tmp 26), type := 0, pos := "ref.go:170", after := #[{ on := 4, ground := Ground.data }], guard := none }) (v := .pointer (some ⟨p, 0, none⟩)) rfl (by kernel_rfl) (by kernel_rfl) (by kernel_rfl) (fun _ _ _ h => h) (Or.inl ⟨by rfl, ?_⟩) hHeld ?_
    · intro w hSw
      go_simp
    try simp only [Act.put, List.setIfInBounds_toArray, List.set_cons_zero, List.set_cons_succ]
    refine wpAnyH_take (i := 6) (oi := { dst := some 28, op := Op.fieldAddr 76 (Operand.tmp 27) 1, type := 0, pos := "ref.go:170", after := #[{ on := 5, ground := Ground.data }], guard := none }) (v := .pointer (some ⟨p, 1, none⟩)) rfl (by kernel_rfl) (by kernel_rfl) (by kernel_rfl) (fun _ _ _ h => h) (Or.inl ⟨by rfl, ?_⟩) hHeld ?_
    · intro w hSw
      go_simp
    try simp only [Act.put, List.setIfInBounds_toArray, List.set_cons_zero, List.set_cons_succ]
    refine wpAnyH_take (i := 7) (oi := { dst := some 29, op := Op.load 3 (Operand.tmp 28), type := 3, pos := "ref.go:170", after := #[{ on := 6, ground := Ground.data }], guard := none }) (v := .int .i64 (n : Int)) rfl (by kernel_rfl) (by kernel_rfl) (by kernel_rfl) (fun _ _ _ h => h) (Or.inl ⟨by rfl, ?_⟩) hHeld ?_
    · intro w hSw
      obtain ⟨s0, s1, s2⟩ := hSw; go_simp
    try simp only [Act.put, List.setIfInBounds_toArray, List.set_cons_zero, List.set_cons_succ]
    refine wpAnyH_take (i := 8) (oi := { dst := some 30, op := Op.indexAddr 24 (Operand.tmp 25) (Operand.tmp 29), type := 0, pos := "ref.go:170", after := #[{ on := 3, ground := Ground.data }, { on := 7, ground := Ground.data }], guard := none }) (v := .pointer (some ⟨b, off + n, none⟩)) rfl (by kernel_rfl) (by kernel_rfl) (by kernel_rfl) (fun _ _ _ h => h) (Or.inl ⟨by rfl, ?_⟩) hHeld ?_
    · intro w hSw
      go_simp
    try simp only [Act.put, List.setIfInBounds_toArray, List.set_cons_zero, List.set_cons_succ]
    refine wpAnyH_take (i := 9) (oi := { dst := some 31, op := Op.load 5 (Operand.tmp 30), type := 5, pos := "ref.go:170", after := #[{ on := 8, ground := Ground.data }], guard := none }) (v := .int .u8 c) rfl (by kernel_rfl) (by kernel_rfl) (by kernel_rfl) (fun _ _ _ h => h) (Or.inl ⟨by rfl, ?_⟩) hHeld ?_
    · intro w hSw
      obtain ⟨s0, s1, s2⟩ := hSw; go_simp
    try simp only [Act.put, List.setIfInBounds_toArray, List.set_cons_zero, List.set_cons_succ]
    refine wpAnyH_take (i := 10) (oi := { dst := some 32, op := Op.convert 5 3 (Operand.tmp 31), type := 3, pos := "ref.go:170", after := #[{ on := 9, ground := Ground.data }], guard := none }) (v := .int .i64 c) rfl (by kernel_rfl) (by kernel_rfl) (by kernel_rfl) (fun _ _ _ h => h) (Or.inl ⟨by rfl, ?_⟩) hHeld ?_
    · intro w hSw
      go_simp
    try simp only [Act.put, List.setIfInBounds_toArray, List.set_cons_zero, List.set_cons_succ]
    refine wpAnyH_take (i := 11) (oi := { dst := some 33, op := Op.fieldAddr 46 (Operand.tmp 3) 0, type := 0, pos := "ref.go:170", after := #[{ on := 0, ground := Ground.phase }, { on := 1, ground := Ground.phase }, { on := 2, ground := Ground.phase }, { on := 3, ground := Ground.phase }, { on := 4, ground := Ground.phase }, { on := 5, ground := Ground.phase }, { on := 6, ground := Ground.phase }, { on := 7, ground := Ground.phase }, { on := 8, ground := Ground.phase }, { on := 9, ground := Ground.phase }, { on := 10, ground := Ground.phase }], guard := none }) (v := .pointer (some ⟨W1.heap.size, 0, none⟩)) rfl (by kernel_rfl) (by kernel_rfl) (by kernel_rfl) (fun _ _ _ h => h) (Or.inl ⟨by rfl, ?_⟩) hHeld ?_
    · intro w hSw
      go_simp
    try simp only [Act.put, List.setIfInBounds_toArray, List.set_cons_zero, List.set_cons_succ]
    refine wpAnyH_ready (rs := [12]) (by kernel_rfl) (by simp) ?_
    refine AllReadyH.cons (o := { dst := none, op := Op.store 3 (Operand.tmp 33) (Operand.tmp 32), type := 0, pos := "ref.go:170", after := #[{ on := 11, ground := Ground.data }, { on := 10, ground := Ground.data }, { on := 0, ground := Ground.phase }, { on := 1, ground := Ground.phase }, { on := 2, ground := Ground.phase }, { on := 3, ground := Ground.phase }, { on := 4, ground := Ground.phase }, { on := 5, ground := Ground.phase }, { on := 6, ground := Ground.phase }, { on := 7, ground := Ground.phase }, { on := 8, ground := Ground.phase }, { on := 9, ground := Ground.phase }, { on := 10, ground := Ground.phase }], guard := none }) rfl (fun K hK => ?_) AllReadyH.nil
    go_simp
    refine hK.out _ _ ?_ (fun hHeld => ?_)
    · exact unhide HS5
    clear hK K
    refine wpAnyH_done (by kernel_rfl) ?_ _
    have hD := unhide HD5
    clear HD5 HS5 hHeld x0 x1 xb c0 fz
    generalize (W3.setCell ⟨W1.heap.size, 0, none⟩ (.int .i64 c)).drew = W5 at *
    have c0 := hD.cells.1
    go_wp2_with fail
    refine ((unhide KF) _).mono ?_
    rintro e5 w5 ⟨rfl, rfl⟩
    clear KF c0
    have x1 := hD.rd.cells.2.1
    have fz1 := frozen_of (j := 1) hD.rd
    replace hD := hD.setA ((n : Int) + 1)
    obtain ⟨W6, hW6⟩ : ∃ W6, w5.setCell ⟨p, 1, none⟩ (.int .i64 ((n : Int) + 1)) = W6 := ⟨_, rfl⟩
    rw [hW6] at hD
    have c0 := hD.cells.1
    go_wp2_with fail
    refine ((unhide KFM) _).mono ?_
    rintro e6 w6 ⟨rfl, rfl⟩
    clear KFM c0 x1 fz1 hW6 hq hq2 hwc hby
    generalize hx0 : (⟨c, 0, 0, 0, [], ⟨#[]⟩, ⟨#[]⟩, 0⟩ : Rec) = x0 at *
    have ht0 : x0.to.length = 0 := by rw [← hx0]; rfl
    clear hx0
    generalize (n : Int) + 1 = a0 at *
    have HD6 := hide hD
    clear hD
    go_wp2
    go_loopw [5, 6, 7] (fun iv _ _ wr => ∃ (k : Nat) (x : Rec) (vt : Value) (a e : Int), iv = .int .i64 k ∧ k ≤ fs.size ∧ Pk.lss zs ((nums fs).take k) x0 a0 0 = (x, a, e) ∧ x.to.length ≤ 30 * k ∧ Dst W0 wr p W0.heap.size W1.heap.size (.slice (some ⟨b, off, none⟩) m cap) x vt a e) (fun iv _ _ _ => fs.size - (intOf iv).toNat)
    case atStart => exact ⟨0, x0, _, a0, 0, rfl, by omega, (unhide HNIL) _ _, by omega, unhide HD6⟩
    case round =>
      obtain ⟨k, x, vt, a, e, rfl, hk, hls, hxl, hD⟩ := hrel
      clear HD6 HNIL
      obtain ⟨kd, lo, hi, nn, tt, nm, ot, wt⟩ := x
      by_cases hlt : k < fs.size
      · have hix := (unhide HIX) k hlt
        obtain ⟨cc1, cc2⟩ := (unhide HCB) k
        have HNX := (unhide HSTEP) k x0 a0 hlt
        rw [hls] at HNX
        clear hls HIX HCB HSTEP
        generalize (nums fs).getD k 0 = c at *
        have hcases : c = 83 ∨ c = 76 ∨ c = 78 ∨ c = 84 ∨ c = 120 ∨ c = 110 ∨ c = 111 ∨ (c ≠ 83 ∧ c ≠ 76 ∧ c ≠ 78 ∧ c ≠ 84 ∧ c ≠ 120 ∧ c ≠ 110 ∧ c ≠ 111) := by omega
        have hxl2 : tt.length ≤ 30 * k := hxl
        clear hxl
        rcases hcases with rfl | rfl | rfl | rfl | rfl | rfl | rfl | ⟨d1, d2, d3, d4, d5, d6, d7⟩
        · rw [ls_S] at HNX
          have HR := (unhide HUR) a e 1114111 (by omega)
          go_wp2_with fail
          refine ((unhide KU) _ _ _ _ _ 1114111 hD).mono ?_
          rintro e2 w2 ⟨rfl, hD2⟩
          clear hD
          generalize Pk.uR zs a e 1114111 = q1 at *
          obtain ⟨n1, a1, e1⟩ := q1
          simp only at HNX HR hD2
          have HR2 := (unhide HUR) a1 e1 1114111 (by omega)
          have c1 := hD2.cells.2.1
          have fz := hD2.soft 1
          have hD3 := hD2.put (x' := ⟨kd, n1, hi, nn, tt, nm, ot, wt⟩) 1 (.int .i64 n1) rfl rfl
          obtain ⟨w3, hw3⟩ : ∃ w3, w2.setCell ⟨W1.heap.size, 1, none⟩ (.int .i64 n1) = w3 := ⟨_, rfl⟩
          rw [hw3] at hD3
          have HX := hide HNX
          clear HNX
          go_wp2
          clear hw3 c1 fz hD2
          have HD4 := hide (hD3.drew 1)
          have s0 : w3.drew.cell? ⟨W1.heap.size, 1, none⟩ = some (.int .i64 n1) := (hD3.drew 1).cells.2.1
          clear hD3
          refine wp_region_held_drew (S := fun w' => w'.cell? ⟨W1.heap.size, 1, none⟩ = some (.int .i64 n1)) (by kernel_rfl) s0 (fun hHeld => ?_)
          refine wpAnyH_take (i := 0) (oi := { dst := some 69, op := Op.fieldAddr 46 (Operand.tmp 3) 1, type := 0, pos := "ref.go:181", after := #[], guard := none }) (v := .pointer (some ⟨W1.heap.size, 1, none⟩)) rfl (by kernel_rfl) (by kernel_rfl) (by kernel_rfl) (fun _ _ _ h => h) (Or.inl ⟨by rfl, ?_⟩) hHeld ?_
          · intro w hSw
            go_simp
          try simp only [Act.put, List.setIfInBounds_toArray, List.set_cons_zero, List.set_cons_succ]
          refine wpAnyH_take (i := 1) (oi := { dst := some 70, op := Op.load 3 (Operand.tmp 69), type := 3, pos := "ref.go:181", after := #[{ on := 0, ground := Ground.data }], guard := none }) (v := .int .i64 n1) rfl (by kernel_rfl) (by kernel_rfl) (by kernel_rfl) (fun _ _ _ h => h) (Or.inl ⟨by rfl, ?_⟩) hHeld ?_
          · intro w hSw
            go_simp
          try simp only [Act.put, List.setIfInBounds_toArray, List.set_cons_zero, List.set_cons_succ]
          refine wpAnyH_take (i := 2) (oi := { dst := some 71, op := Op.move (Operand.tmp 0), type := 74, pos := "ref.go:181", after := #[], guard := none }) (v := .pointer (some ⟨p, 0, none⟩)) rfl (by kernel_rfl) (by kernel_rfl) (by kernel_rfl) (fun _ _ _ h => h) (Or.inl ⟨by rfl, ?_⟩) hHeld ?_
          · intro w hSw
            go_simp
          try simp only [Act.put, List.setIfInBounds_toArray, List.set_cons_zero, List.set_cons_succ]
          refine wpAnyH_ready (rs := [3]) (by kernel_rfl) (by simp) ?_
          refine AllReadyH.cons (o := { dst := some 72, op := Op.call { callee := Callee.value (Operand.func 63), args := #[Operand.tmp 71, Operand.const (Value.int IntKind.i64 1114111)], argTypes := #[74, 3] }, type := 3, pos := "ref.go:181", after := #[{ on := 2, ground := Ground.data }], guard := none }) rfl (fun K hK => ?_) AllReadyH.nil
          go_simp
          refine ((unhide KU) _ _ _ _ _ 1114111 (unhide HD4)).mono ?_
          rintro e4 w4 ⟨rfl, hD4⟩
          clear HD4
          generalize Pk.uR zs a1 e1 1114111 = q2 at *
          obtain ⟨n2, a2, e2⟩ := q2
          simp only at HR2 hD4
          have hwr : IntKind.i64.wrap (n1 + n2) = n1 + n2 := by rw [IntKind.wrap_i64]; omega
          refine hK.out _ _ ?_ (fun hHeld => ?_)
          · exact hD4.cells.2.1
          clear hK K
          refine wpAnyH_take (i := 4) (oi := { dst := some 73, op := Op.binOp BinOp.add 3 (Operand.tmp 70) (Operand.tmp 72) 3, type := 3, pos := "ref.go:181", after := #[{ on := 1, ground := Ground.data }, { on := 3, ground := Ground.data }], guard := none }) (v := .int .i64 (n1 + n2)) rfl (by kernel_rfl) (by kernel_rfl) (by kernel_rfl) (fun _ _ _ h => h) (Or.inl ⟨by rfl, ?_⟩) hHeld ?_
          · intro w hSw
            go_simp
          try simp only [Act.put, List.setIfInBounds_toArray, List.set_cons_zero, List.set_cons_succ]
          refine wpAnyH_take (i := 5) (oi := { dst := some 74, op := Op.fieldAddr 46 (Operand.tmp 3) 2, type := 0, pos := "ref.go:181", after := #[{ on := 0, ground := Ground.phase }, { on := 1, ground := Ground.phase }, { on := 2, ground := Ground.phase }, { on := 3, ground := Ground.phase }, { on := 4, ground := Ground.phase }], guard := none }) (v := .pointer (some ⟨W1.heap.size, 2, none⟩)) rfl (by kernel_rfl) (by kernel_rfl) (by kernel_rfl) (fun _ _ _ h => h) (Or.inl ⟨by rfl, ?_⟩) hHeld ?_
          · intro w hSw
            go_simp
          try simp only [Act.put, List.setIfInBounds_toArray, List.set_cons_zero, List.set_cons_succ]
          have c2 := hD4.cells.2.2.1
          have fz2 := hD4.soft 2
          have hD5 := hD4.put (x' := ⟨kd, n1, n1 + n2, nn, tt, nm, ot, wt⟩) 2 (.int .i64 (n1 + n2)) rfl rfl
          have HD5 := hide hD5
          have s5 := hide hD5.cells.2.1
          clear hD5
          refine wpAnyH_ready (rs := [6]) (by kernel_rfl) (by simp) ?_
          refine AllReadyH.cons (o := { dst := none, op := Op.store 3 (Operand.tmp 74) (Operand.tmp 73), type := 0, pos := "ref.go:181", after := #[{ on := 5, ground := Ground.data }, { on := 4, ground := Ground.data }, { on := 3, ground := Ground.chain }, { on := 0, ground := Ground.phase }, { on := 1, ground := Ground.phase }, { on := 2, ground := Ground.phase }, { on := 3, ground := Ground.phase }, { on := 4, ground := Ground.phase }], guard := none }) rfl (fun K hK => ?_) AllReadyH.nil
          go_simp
          refine hK.out _ _ ?_ (fun hHeld => ?_)
          · exact unhide s5
          clear hK K
          refine wpAnyH_done (by kernel_rfl) ?_ _
          clear hHeld s0 s5 c2 fz2 hD4
          generalize w4.setCell ⟨W1.heap.size, 2, none⟩ (.int .i64 (n1 + n2)) = w5 at *
          go_wp2
          go_roundw
          case rel => exact ⟨k + 1, ⟨kd, n1, n1 + n2, nn, tt, nm, ot, wt⟩, vt, a2, e2, by go_num, by omega, unhide HX, by show tt.length ≤ _; omega, unhide HD5⟩
          case measure => simp [intOf]; omega
        · rw [ls_L] at HNX
          go_wp2_with fail
          refine ((unhide KU) _ _ _ _ _ 1114111 hD).mono ?_
          rintro e2 w2 ⟨rfl, hD2⟩
          clear hD
          generalize Pk.uR zs a e 1114111 = q1 at *
          obtain ⟨n1, a1, e1⟩ := q1
          simp only at HNX hD2
          have c1 := hD2.cells.2.1
          have fz := hD2.soft 1
          have hD3 := hD2.put (x' := ⟨kd, n1, hi, nn, tt, nm, ot, wt⟩) 1 (.int .i64 n1) rfl rfl
          obtain ⟨w3, hw3⟩ : ∃ w3, w2.setCell ⟨W1.heap.size, 1, none⟩ (.int .i64 n1) = w3 := ⟨_, rfl⟩
          rw [hw3] at hD3
          have c3 := hD3.cells.2.1
          have c4 := hD3.cells.2.2.1
          have fz4 := hD3.soft 2
          have HD4 := hide (hD3.put (x' := ⟨kd, n1, n1, nn, tt, nm, ot, wt⟩) 2 (.int .i64 n1) rfl rfl)
          have HX := hide HNX
          clear HNX hD2 hD3
          go_wp2
          go_roundw
          case rel => exact ⟨k + 1, ⟨kd, n1, n1, nn, tt, nm, ot, wt⟩, vt, a1, e1, by go_num, by omega, unhide HX, by show tt.length ≤ _; omega, unhide HD4⟩
          case measure => simp [intOf]; omega
        · rw [ls_N] at HNX
          go_wp2_with fail
          refine ((unhide KU) _ _ _ _ _ 1114111 hD).mono ?_
          rintro e2 w2 ⟨rfl, hD2⟩
          clear hD
          generalize Pk.uR zs a e 1114111 = q1 at *
          obtain ⟨n1, a1, e1⟩ := q1
          simp only at HNX hD2
          have c3 := hD2.cells.2.2.2.1
          have fz := hD2.soft 3
          have HD3 := hide (hD2.put (x' := ⟨kd, lo, hi, n1, tt, nm, ot, wt⟩) 3 (.int .i64 n1) rfl rfl)
          have HX := hide HNX
          clear HNX hD2
          go_wp2
          go_roundw
          case rel => exact ⟨k + 1, ⟨kd, lo, hi, n1, tt, nm, ot, wt⟩, vt, a1, e1, by go_num, by omega, unhide HX, by show tt.length ≤ _; omega, unhide HD3⟩
          case measure => simp [intOf]; omega
        · rw [ls_T] at HNX
          have HR := (unhide HUR) a e 1114111 (by omega)
          go_wp2_with fail
          refine ((unhide KU) _ _ _ _ _ 1114111 hD).mono ?_
          rintro e2 w2 ⟨rfl, hD2⟩
          clear hD
          generalize Pk.uR zs a e 1114111 = q1 at *
          obtain ⟨n1, a1, e1⟩ := q1
          simp only at HNX HR hD2
          have hw32 : IntKind.i32.wrap n1 = n1 := by rw [IntKind.wrap_i32]; omega
          have hD3 := hD2.one n1 ⟨by omega, by omega⟩
          have c4 : ∀ o, (w2.alloc o).cell? ⟨W1.heap.size, 4, none⟩ = some vt := fun o => cell_old o hD2.cells.2.2.2.2.1
          have fz : ∀ o, (w2.alloc o).frozen? ⟨W1.heap.size, 4, none⟩ = false := fun o => frozen_of (cur := rarr ⟨kd, lo, hi, nn, tt, nm, ot, wt⟩ vt) (e := 46) (by rw [((Below.refl w2.heap.size w2).alloc (Nat.le_refl _) o).block _ hD2.ro.lt]; exact hD2.ro.1)
          have HD3 := hide hD3
          have HX := hide HNX
          clear HNX hD2 hD3
          go_wp2
          go_roundw
          case rel => exact ⟨k + 1, ⟨kd, lo, hi, nn, [n1], nm, ot, wt⟩, _, a1, e1, by go_num, by omega, unhide HX, by show 1 ≤ _; omega, unhide HD3⟩
          case measure => simp [intOf]; omega
        · rw [ls_x] at HNX
          have HR := (unhide HUR) a e 24 (by omega)
          go_wp2_with fail
          refine ((unhide KU) _ _ _ _ _ 24 hD).mono ?_
          rintro e2 w2 ⟨rfl, hD2⟩
          clear hD
          generalize Pk.uR zs a e 24 = q1 at *
          obtain ⟨n1, a1, e1⟩ := q1
          simp only at HNX HR hD2
          obtain ⟨sz, rfl⟩ : ∃ sz : Nat, n1 = (sz : Int) := ⟨n1.toNat, by omega⟩
          rw [Int.toNat_natCast] at HNX
          generalize hRES : Pk.lx zs sz tt a1 e1 = RES at *
          have HD2 := hide hD2
          have HX := hide HNX
          have HRES := hide hRES
          have HQ : Hid (∀ k acc a, Pk.lx zs (k + 1) acc a 0 = Pk.lx zs k (acc ++ [(Pk.uR zs a 0 1114111).1]) (Pk.uR zs a 0 1114111).2.1 (Pk.uR zs a 0 1114111).2.2) := fun k acc a => lx_step zs k acc a
          have HF : Hid (∀ k acc a e, e ≠ 0 → Pk.lx zs k acc a e = (acc, a, e)) := fun k acc a e h => Pk.lx_far zs k acc a e h
          have HZ : Hid (∀ acc a e, Pk.lx zs 0 acc a e = (acc, a, e)) := fun acc a e => rfl
          clear hD2 HNX hRES
          go_wp2
          go_loopw [7] (fun jv wr => ∃ (j : Nat) (acc : List Int) (vt : Value) (a e : Int), jv = .int .i64 j ∧ j ≤ sz ∧ acc.length ≤ tt.length + j ∧ Pk.lx zs (sz - j) acc a e = RES ∧ Dst W0 wr p W0.heap.size W1.heap.size (.slice (some ⟨b, off, none⟩) m cap) ⟨kd, lo, hi, nn, acc, nm, ot, wt⟩ vt a e) (fun jv _ => sz - (intOf jv).toNat)
          case atStart => exact ⟨0, tt, vt, a1, e1, rfl, by omega, by omega, unhide HRES, unhide HD2⟩
          case round =>
            obtain ⟨j, acc, vt2, a2, e2, rfl, hj, hal, hres, hD⟩ := hrel
            clear HD2 HRES
            have x2 := hD.rd.cells.2.2
            by_cases hjl : j < sz
            · by_cases he : e2 = 0
              · subst he
                obtain ⟨d, hd⟩ : ∃ d, sz - j = d + 1 := ⟨sz - j - 1, by omega⟩
                have hd2 : sz - (j + 1) = d := by omega
                rw [hd, (unhide HQ)] at hres
                have HR3 := (unhide HUR) a2 0 1114111 (by omega)
                have HD3 := hide (hD.drew 1)
                have c4 : wr.cell? ⟨W1.heap.size, 4, none⟩ = some vt2 := hD.cells.2.2.2.2.1
                have HRS := hide hres
                clear hres hD HZ HF HQ
                go_wp2
                clear x2
                refine wp_region_held_drew (S := fun _ => True) (by kernel_rfl) True.intro (fun hHeld => ?_)
                refine wpAnyH_take (i := 0) (oi := { dst := some 111, op := Op.fieldAddr 46 (Operand.tmp 3) 4, type := 0, pos := "ref.go:192", after := #[], guard := none }) (v := .pointer (some ⟨W1.heap.size, 4, none⟩)) rfl (by kernel_rfl) (by kernel_rfl) (by kernel_rfl) (fun _ _ _ h => h) (Or.inl ⟨by rfl, ?_⟩) hHeld ?_
                · intro w hSw
                  go_simp
                try simp only [Act.put, List.setIfInBounds_toArray, List.set_cons_zero, List.set_cons_succ]
                refine wpAnyH_take (i := 2) (oi := { dst := some 113, op := Op.move (Operand.tmp 0), type := 74, pos := "ref.go:192", after := #[], guard := none }) (v := .pointer (some ⟨p, 0, none⟩)) rfl (by kernel_rfl) (by kernel_rfl) (by kernel_rfl) (fun _ _ _ h => h) (Or.inl ⟨by rfl, ?_⟩) hHeld ?_
                · intro w hSw
                  go_simp
                try simp only [Act.put, List.setIfInBounds_toArray, List.set_cons_zero, List.set_cons_succ]
                refine wpAnyH_ready (rs := [1, 3]) (by kernel_rfl) (by simp) ?_
                refine AllReadyH.cons (o := { dst := some 112, op := Op.load 43 (Operand.tmp 111), type := 43, pos := "ref.go:192", after := #[{ on := 0, ground := Ground.data }], guard := none }) rfl (fun K hK => ?_) (AllReadyH.cons (o := { dst := some 114, op := Op.call { callee := Callee.value (Operand.func 63), args := #[Operand.tmp 113, Operand.const (Value.int IntKind.i64 1114111)], argTypes := #[74, 3] }, type := 3, pos := "ref.go:192", after := #[{ on := 2, ground := Ground.data }], guard := none }) rfl (fun K hK => ?_) AllReadyH.nil)
                · go_simp
                  refine hK.out _ _ ?_ (fun hHeld => ?_)
                  · trivial
                  clear hK K
                  try simp only [Act.put, List.setIfInBounds_toArray, List.set_cons_zero, List.set_cons_succ]
                  refine wpAnyH_ready (rs := [3]) (by kernel_rfl) (by simp) ?_
                  refine AllReadyH.cons (o := { dst := some 114, op := Op.call { callee := Callee.value (Operand.func 63), args := #[Operand.tmp 113, Operand.const (Value.int IntKind.i64 1114111)], argTypes := #[74, 3] }, type := 3, pos := "ref.go:192", after := #[{ on := 2, ground := Ground.data }], guard := none }) rfl (fun K hK => ?_) AllReadyH.nil
                  go_simp
                  refine ((unhide KU) _ _ _ _ _ 1114111 (unhide HD3)).mono ?_
                  rintro e4 w4 ⟨rfl, hD4⟩
                  clear HD3
                  generalize Pk.uR zs a2 0 1114111 = q2 at *
                  obtain ⟨n2, a3, e3⟩ := q2
                  simp only at HR3 hD4
                  have hw32 : IntKind.i32.wrap n2 = n2 := by rw [IntKind.wrap_i32]; omega
                  have c4b : w4.cell? ⟨W1.heap.size, 4, none⟩ = some vt2 := hD4.cells.2.2.2.2.1
                  have c4a : ∀ o, (w4.alloc o).cell? ⟨W1.heap.size, 4, none⟩ = some vt2 := fun o => cell_old o c4b
                  have HMORE := hide (hD4.more (c := n2) (by show acc.length ≤ 1000; omega) ⟨by omega, by omega⟩)
                  have HROW : Hid ((w4.alloc (.cells #[.int .i32 n2] 21)).ownsRow (W0.heap.size + 2) 21 1 vt2 acc.length (acc.map (Value.int .i32))) := hD4.ro.2.1.row.alloc _
                  have HNEW : Hid (∀ j u, [Value.int .i32 n2][j]? = some u → (w4.alloc (.cells #[.int .i32 n2] 21)).cell? ((⟨w4.heap.size, 0, none⟩ : Addr).add j) = some u) := one_new w4 _ _ _ rfl
                  have hsz4 := hD4.sz
                  clear hD4
                  refine hK.out _ _ ?_ (fun hHeld => ?_)
                  · trivial
                  clear hK K
                  refine wpAnyH_take (i := 4) (oi := { dst := some 115, op := Op.convert 3 21 (Operand.tmp 114), type := 21, pos := "ref.go:192", after := #[{ on := 3, ground := Ground.data }], guard := none }) (v := .int .i32 n2) rfl (by kernel_rfl) (by kernel_rfl) (by kernel_rfl) (fun _ _ _ h => h) (Or.inl ⟨by rfl, ?_⟩) hHeld ?_
                  · intro w hSw
                    go_simp
                  try simp only [Act.put, List.setIfInBounds_toArray, List.set_cons_zero, List.set_cons_succ]
                  refine wpAnyH_ready (rs := [5]) (by kernel_rfl) (by simp) ?_
                  refine AllReadyH.cons (o := { dst := some 116, op := Op.buildSlice 43 1 #[(0, Operand.tmp 115)], type := 43, pos := "ref.go:192", after := #[{ on := 4, ground := Ground.data }], guard := none }) rfl (fun K hK => ?_) AllReadyH.nil
                  go_simp
                  refine hK.out _ _ ?_ (fun hHeld => ?_)
                  · trivial
                  clear hK K
                  try simp only [Act.put, List.setIfInBounds_toArray, List.set_cons_zero, List.set_cons_succ]
                  refine wpAnyH_ready (rs := [6]) (by kernel_rfl) (by simp) ?_
                  refine AllReadyH.cons (o := { dst := some 117, op := Op.call { callee := Callee.builtin Builtin.append, args := #[Operand.tmp 112, Operand.tmp 116], argTypes := #[43, 43] }, type := 43, pos := "ref.go:192", after := #[{ on := 1, ground := Ground.data }, { on := 5, ground := Ground.data }, { on := 3, ground := Ground.chain }], guard := none }) rfl (fun K hK => ?_) AllReadyH.nil
                  refine step_append_lies _ (by rfl) (.tmp 112) (.tmp 116) 43 (by rfl) (W0.heap.size + 2) 21 i0 (.int .i32 0) 1 4 Tryz.underlying43 hi0 hz0 hz1 hz2 rfl (by omega) vt2 acc.length (acc.map (Value.int .i32)) (by rfl) (unhide HROW) ⟨w4.heap.size, 0, none⟩ 1 1 [.int .i32 n2] (by rfl) (by rfl) (unhide HNEW) (int_one _ _) (by omega) (by unfold maxLen; omega) (by omega) (by simp; omega) (w4.heap.size + 1) (by simp) ?_
                  intro gg cap8 w8 hrow8 hgrow8 hat8 hlt8
                  obtain ⟨hD8, hc4, hf4⟩ := (unhide HMORE) gg cap8 w8 hrow8 hgrow8 hat8
                  have HD8 := hide hD8
                  clear hrow8 hgrow8 hat8 hD8
                  refine hK.out _ _ ?_ (fun hHeld => ?_)
                  · trivial
                  clear hK K
                  try simp only [Act.put, List.setIfInBounds_toArray, List.set_cons_zero, List.set_cons_succ]
                  refine wpAnyH_take (i := 7) (oi := { dst := some 118, op := Op.fieldAddr 46 (Operand.tmp 3) 4, type := 0, pos := "ref.go:192", after := #[{ on := 0, ground := Ground.phase }, { on := 1, ground := Ground.phase }, { on := 2, ground := Ground.phase }, { on := 3, ground := Ground.phase }, { on := 4, ground := Ground.phase }, { on := 5, ground := Ground.phase }, { on := 6, ground := Ground.phase }], guard := none }) (v := .pointer (some ⟨W1.heap.size, 4, none⟩)) rfl (by kernel_rfl) (by kernel_rfl) (by kernel_rfl) (fun _ _ _ h => h) (Or.inl ⟨by rfl, ?_⟩) hHeld ?_
                  · intro w hSw
                    go_simp
                  try simp only [Act.put, List.setIfInBounds_toArray, List.set_cons_zero, List.set_cons_succ]
                  refine wpAnyH_ready (rs := [8]) (by kernel_rfl) (by simp) ?_
                  refine AllReadyH.cons (o := { dst := none, op := Op.store 43 (Operand.tmp 118) (Operand.tmp 117), type := 0, pos := "ref.go:192", after := #[{ on := 7, ground := Ground.data }, { on := 6, ground := Ground.data }, { on := 6, ground := Ground.chain }, { on := 0, ground := Ground.phase }, { on := 1, ground := Ground.phase }, { on := 2, ground := Ground.phase }, { on := 3, ground := Ground.phase }, { on := 4, ground := Ground.phase }, { on := 5, ground := Ground.phase }, { on := 6, ground := Ground.phase }], guard := none }) rfl (fun K hK => ?_) AllReadyH.nil
                  go_simp
                  refine hK.out _ _ ?_ (fun hHeld => ?_)
                  · trivial
                  clear hK K
                  refine wpAnyH_done (by kernel_rfl) ?_ _
                  clear hHeld hc4 hf4 hlt8 HMORE HROW HNEW c4 c4a c4b hsz4
                  generalize w8.setCell ⟨W1.heap.size, 4, none⟩ (.slice (some ⟨gg, 0, none⟩) (acc.length + 1) cap8) = w9 at *
                  go_wp2
                  go_roundw
                  case rel => exact ⟨j + 1, acc ++ [n2], _, a3, e3, by go_num, by omega, by simp; omega, by rw [hd2]; exact unhide HRS, unhide HD8⟩
                  case measure => simp [intOf]; omega
                · go_simp
                  refine ((unhide KU) _ _ _ _ _ 1114111 (unhide HD3)).mono ?_
                  rintro e4 w4 ⟨rfl, hD4⟩
                  clear HD3
                  generalize Pk.uR zs a2 0 1114111 = q2 at *
                  obtain ⟨n2, a3, e3⟩ := q2
                  simp only at HR3 hD4
                  have hw32 : IntKind.i32.wrap n2 = n2 := by rw [IntKind.wrap_i32]; omega
                  have c4b : w4.cell? ⟨W1.heap.size, 4, none⟩ = some vt2 := hD4.cells.2.2.2.2.1
                  have c4a : ∀ o, (w4.alloc o).cell? ⟨W1.heap.size, 4, none⟩ = some vt2 := fun o => cell_old o c4b
                  have HMORE := hide (hD4.more (c := n2) (by show acc.length ≤ 1000; omega) ⟨by omega, by omega⟩)
                  have HROW : Hid ((w4.alloc (.cells #[.int .i32 n2] 21)).ownsRow (W0.heap.size + 2) 21 1 vt2 acc.length (acc.map (Value.int .i32))) := hD4.ro.2.1.row.alloc _
                  have HNEW : Hid (∀ j u, [Value.int .i32 n2][j]? = some u → (w4.alloc (.cells #[.int .i32 n2] 21)).cell? ((⟨w4.heap.size, 0, none⟩ : Addr).add j) = some u) := one_new w4 _ _ _ rfl
                  have hsz4 := hD4.sz
                  clear hD4
                  refine hK.out _ _ ?_ (fun hHeld => ?_)
                  · trivial
                  clear hK K
                  refine wpAnyH_take (i := 4) (oi := { dst := some 115, op := Op.convert 3 21 (Operand.tmp 114), type := 21, pos := "ref.go:192", after := #[{ on := 3, ground := Ground.data }], guard := none }) (v := .int .i32 n2) rfl (by kernel_rfl) (by kernel_rfl) (by kernel_rfl) (fun _ _ _ h => h) (Or.inl ⟨by rfl, ?_⟩) hHeld ?_
                  · intro w hSw
                    go_simp
                  try simp only [Act.put, List.setIfInBounds_toArray, List.set_cons_zero, List.set_cons_succ]
                  refine wpAnyH_ready (rs := [1, 5]) (by kernel_rfl) (by simp) ?_
                  refine AllReadyH.cons (o := { dst := some 112, op := Op.load 43 (Operand.tmp 111), type := 43, pos := "ref.go:192", after := #[{ on := 0, ground := Ground.data }], guard := none }) rfl (fun K hK => ?_) (AllReadyH.cons (o := { dst := some 116, op := Op.buildSlice 43 1 #[(0, Operand.tmp 115)], type := 43, pos := "ref.go:192", after := #[{ on := 4, ground := Ground.data }], guard := none }) rfl (fun K hK => ?_) AllReadyH.nil)
                  · go_simp
                    refine hK.out _ _ ?_ (fun hHeld => ?_)
                    · trivial
                    clear hK K
                    try simp only [Act.put, List.setIfInBounds_toArray, List.set_cons_zero, List.set_cons_succ]
                    refine wpAnyH_ready (rs := [5]) (by kernel_rfl) (by simp) ?_
                    refine AllReadyH.cons (o := { dst := some 116, op := Op.buildSlice 43 1 #[(0, Operand.tmp 115)], type := 43, pos := "ref.go:192", after := #[{ on := 4, ground := Ground.data }], guard := none }) rfl (fun K hK => ?_) AllReadyH.nil
                    go_simp
                    refine hK.out _ _ ?_ (fun hHeld => ?_)
                    · trivial
                    clear hK K
                    try simp only [Act.put, List.setIfInBounds_toArray, List.set_cons_zero, List.set_cons_succ]
                    refine wpAnyH_ready (rs := [6]) (by kernel_rfl) (by simp) ?_
                    refine AllReadyH.cons (o := { dst := some 117, op := Op.call { callee := Callee.builtin Builtin.append, args := #[Operand.tmp 112, Operand.tmp 116], argTypes := #[43, 43] }, type := 43, pos := "ref.go:192", after := #[{ on := 1, ground := Ground.data }, { on := 5, ground := Ground.data }, { on := 3, ground := Ground.chain }], guard := none }) rfl (fun K hK => ?_) AllReadyH.nil
                    refine step_append_lies _ (by rfl) (.tmp 112) (.tmp 116) 43 (by rfl) (W0.heap.size + 2) 21 i0 (.int .i32 0) 1 4 Tryz.underlying43 hi0 hz0 hz1 hz2 rfl (by omega) vt2 acc.length (acc.map (Value.int .i32)) (by rfl) (unhide HROW) ⟨w4.heap.size, 0, none⟩ 1 1 [.int .i32 n2] (by rfl) (by rfl) (unhide HNEW) (int_one _ _) (by omega) (by unfold maxLen; omega) (by omega) (by simp; omega) (w4.heap.size + 1) (by simp) ?_
                    intro gg cap8 w8 hrow8 hgrow8 hat8 hlt8
                    obtain ⟨hD8, hc4, hf4⟩ := (unhide HMORE) gg cap8 w8 hrow8 hgrow8 hat8
                    have HD8 := hide hD8
                    clear hrow8 hgrow8 hat8 hD8
                    refine hK.out _ _ ?_ (fun hHeld => ?_)
                    · trivial
                    clear hK K
                    try simp only [Act.put, List.setIfInBounds_toArray, List.set_cons_zero, List.set_cons_succ]
                    refine wpAnyH_take (i := 7) (oi := { dst := some 118, op := Op.fieldAddr 46 (Operand.tmp 3) 4, type := 0, pos := "ref.go:192", after := #[{ on := 0, ground := Ground.phase }, { on := 1, ground := Ground.phase }, { on := 2, ground := Ground.phase }, { on := 3, ground := Ground.phase }, { on := 4, ground := Ground.phase }, { on := 5, ground := Ground.phase }, { on := 6, ground := Ground.phase }], guard := none }) (v := .pointer (some ⟨W1.heap.size, 4, none⟩)) rfl (by kernel_rfl) (by kernel_rfl) (by kernel_rfl) (fun _ _ _ h => h) (Or.inl ⟨by rfl, ?_⟩) hHeld ?_
                    · intro w hSw
                      go_simp
                    try simp only [Act.put, List.setIfInBounds_toArray, List.set_cons_zero, List.set_cons_succ]
                    refine wpAnyH_ready (rs := [8]) (by kernel_rfl) (by simp) ?_
                    refine AllReadyH.cons (o := { dst := none, op := Op.store 43 (Operand.tmp 118) (Operand.tmp 117), type := 0, pos := "ref.go:192", after := #[{ on := 7, ground := Ground.data }, { on := 6, ground := Ground.data }, { on := 6, ground := Ground.chain }, { on := 0, ground := Ground.phase }, { on := 1, ground := Ground.phase }, { on := 2, ground := Ground.phase }, { on := 3, ground := Ground.phase }, { on := 4, ground := Ground.phase }, { on := 5, ground := Ground.phase }, { on := 6, ground := Ground.phase }], guard := none }) rfl (fun K hK => ?_) AllReadyH.nil
                    go_simp
                    refine hK.out _ _ ?_ (fun hHeld => ?_)
                    · trivial
                    clear hK K
                    refine wpAnyH_done (by kernel_rfl) ?_ _
                    clear hHeld hc4 hf4 hlt8 HMORE HROW HNEW c4 c4a c4b hsz4
                    generalize w8.setCell ⟨W1.heap.size, 4, none⟩ (.slice (some ⟨gg, 0, none⟩) (acc.length + 1) cap8) = w9 at *
                    go_wp2
                    go_roundw
                    case rel => exact ⟨j + 1, acc ++ [n2], _, a3, e3, by go_num, by omega, by simp; omega, by rw [hd2]; exact unhide HRS, unhide HD8⟩
                    case measure => simp [intOf]; omega
                  · go_simp
                    refine hK.out _ _ ?_ (fun hHeld => ?_)
                    · trivial
                    clear hK K
                    try simp only [Act.put, List.setIfInBounds_toArray, List.set_cons_zero, List.set_cons_succ]
                    refine wpAnyH_ready (rs := [1]) (by kernel_rfl) (by simp) ?_
                    refine AllReadyH.cons (o := { dst := some 112, op := Op.load 43 (Operand.tmp 111), type := 43, pos := "ref.go:192", after := #[{ on := 0, ground := Ground.data }], guard := none }) rfl (fun K hK => ?_) AllReadyH.nil
                    go_simp
                    refine hK.out _ _ ?_ (fun hHeld => ?_)
                    · trivial
                    clear hK K
                    try simp only [Act.put, List.setIfInBounds_toArray, List.set_cons_zero, List.set_cons_succ]
                    refine wpAnyH_ready (rs := [6]) (by kernel_rfl) (by simp) ?_
                    refine AllReadyH.cons (o := { dst := some 117, op := Op.call { callee := Callee.builtin Builtin.append, args := #[Operand.tmp 112, Operand.tmp 116], argTypes := #[43, 43] }, type := 43, pos := "ref.go:192", after := #[{ on := 1, ground := Ground.data }, { on := 5, ground := Ground.data }, { on := 3, ground := Ground.chain }], guard := none }) rfl (fun K hK => ?_) AllReadyH.nil
                    refine step_append_lies _ (by rfl) (.tmp 112) (.tmp 116) 43 (by rfl) (W0.heap.size + 2) 21 i0 (.int .i32 0) 1 4 Tryz.underlying43 hi0 hz0 hz1 hz2 rfl (by omega) vt2 acc.length (acc.map (Value.int .i32)) (by rfl) (unhide HROW) ⟨w4.heap.size, 0, none⟩ 1 1 [.int .i32 n2] (by rfl) (by rfl) (unhide HNEW) (int_one _ _) (by omega) (by unfold maxLen; omega) (by omega) (by simp; omega) (w4.heap.size + 1) (by simp) ?_
                    intro gg cap8 w8 hrow8 hgrow8 hat8 hlt8
                    obtain ⟨hD8, hc4, hf4⟩ := (unhide HMORE) gg cap8 w8 hrow8 hgrow8 hat8
                    have HD8 := hide hD8
                    clear hrow8 hgrow8 hat8 hD8
                    refine hK.out _ _ ?_ (fun hHeld => ?_)
                    · trivial
                    clear hK K
                    try simp only [Act.put, List.setIfInBounds_toArray, List.set_cons_zero, List.set_cons_succ]
                    refine wpAnyH_take (i := 7) (oi := { dst := some 118, op := Op.fieldAddr 46 (Operand.tmp 3) 4, type := 0, pos := "ref.go:192", after := #[{ on := 0, ground := Ground.phase }, { on := 1, ground := Ground.phase }, { on := 2, ground := Ground.phase }, { on := 3, ground := Ground.phase }, { on := 4, ground := Ground.phase }, { on := 5, ground := Ground.phase }, { on := 6, ground := Ground.phase }], guard := none }) (v := .pointer (some ⟨W1.heap.size, 4, none⟩)) rfl (by kernel_rfl) (by kernel_rfl) (by kernel_rfl) (fun _ _ _ h => h) (Or.inl ⟨by rfl, ?_⟩) hHeld ?_
                    · intro w hSw
                      go_simp
                    try simp only [Act.put, List.setIfInBounds_toArray, List.set_cons_zero, List.set_cons_succ]
                    refine wpAnyH_ready (rs := [8]) (by kernel_rfl) (by simp) ?_
                    refine AllReadyH.cons (o := { dst := none, op := Op.store 43 (Operand.tmp 118) (Operand.tmp 117), type := 0, pos := "ref.go:192", after := #[{ on := 7, ground := Ground.data }, { on := 6, ground := Ground.data }, { on := 6, ground := Ground.chain }, { on := 0, ground := Ground.phase }, { on := 1, ground := Ground.phase }, { on := 2, ground := Ground.phase }, { on := 3, ground := Ground.phase }, { on := 4, ground := Ground.phase }, { on := 5, ground := Ground.phase }, { on := 6, ground := Ground.phase }], guard := none }) rfl (fun K hK => ?_) AllReadyH.nil
                    go_simp
                    refine hK.out _ _ ?_ (fun hHeld => ?_)
                    · trivial
                    clear hK K
                    refine wpAnyH_done (by kernel_rfl) ?_ _
                    clear hHeld hc4 hf4 hlt8 HMORE HROW HNEW c4 c4a c4b hsz4
                    generalize w8.setCell ⟨W1.heap.size, 4, none⟩ (.slice (some ⟨gg, 0, none⟩) (acc.length + 1) cap8) = w9 at *
                    go_wp2
                    go_roundw
                    case rel => exact ⟨j + 1, acc ++ [n2], _, a3, e3, by go_num, by omega, by simp; omega, by rw [hd2]; exact unhide HRS, unhide HD8⟩
                    case measure => simp [intOf]; omega
              · have hen : (e2 == 0) = false := by simp [he]
                rw [(unhide HF) _ _ _ _ he] at hres
                have HXX := hide (unhide HX)
                subst hres
                have HD3 := hide hD
                have hal2 : acc.length ≤ 30 * (k + 1) := by omega
                clear hD HZ HF HQ HX
                go_wp2
                go_roundw
                case rel => exact ⟨k + 1, ⟨kd, lo, hi, nn, acc, nm, ot, wt⟩, vt2, a2, e2, by go_num, by omega, unhide HXX, hal2, unhide HD3⟩
                case measure => simp [intOf]; omega
            · obtain rfl : j = sz := by omega
              rw [Nat.sub_self, (unhide HZ)] at hres
              have HXX := hide (unhide HX)
              subst hres
              have HD3 := hide hD
              have hal2 : acc.length ≤ 30 * (k + 1) := by omega
              clear hD HZ HF HQ HX
              go_wp2
              go_roundw
              case rel => exact ⟨k + 1, ⟨kd, lo, hi, nn, acc, nm, ot, wt⟩, vt2, a2, e2, by go_num, by omega, unhide HXX, hal2, unhide HD3⟩
              case measure => simp [intOf]; omega
        · rw [ls_n] at HNX
          go_wp2_with fail
          refine ((unhide KT) _ _ _ _ _ hD).mono ?_
          rintro e2 w2 ⟨rfl, hD2⟩
          clear hD
          generalize rtx zs a e = q1 at *
          obtain ⟨s1, a1, e1⟩ := q1
          simp only at HNX hD2
          have c3 := hD2.cells.2.2.2.2.2.1
          have fz := hD2.soft 5
          have HD3 := hide (hD2.put (x' := ⟨kd, lo, hi, nn, tt, s1, ot, wt⟩) 5 (.string s1) rfl rfl)
          have HX := hide HNX
          clear HNX hD2
          go_wp2
          go_roundw
          case rel => exact ⟨k + 1, ⟨kd, lo, hi, nn, tt, s1, ot, wt⟩, vt, a1, e1, by go_num, by omega, unhide HX, by show tt.length ≤ _; omega, unhide HD3⟩
          case measure => simp [intOf]; omega
        · rw [ls_o] at HNX
          go_wp2_with fail
          refine ((unhide KT) _ _ _ _ _ hD).mono ?_
          rintro e2 w2 ⟨rfl, hD2⟩
          clear hD
          generalize rtx zs a e = q1 at *
          obtain ⟨s1, a1, e1⟩ := q1
          simp only at HNX hD2
          have c3 := hD2.cells.2.2.2.2.2.2.1
          have fz := hD2.soft 6
          have HD3 := hide (hD2.put (x' := ⟨kd, lo, hi, nn, tt, nm, s1, wt⟩) 6 (.string s1) rfl rfl)
          have HX := hide HNX
          clear HNX hD2
          go_wp2
          go_roundw
          case rel => exact ⟨k + 1, ⟨kd, lo, hi, nn, tt, nm, s1, wt⟩, vt, a1, e1, by go_num, by omega, unhide HX, by show tt.length ≤ _; omega, unhide HD3⟩
          case measure => simp [intOf]; omega
        · rw [ls_W zs c _ a e d1 d2 d3 d4 d5 d6 d7] at HNX
          have b1 : (c == 83) = false := beq_eq_false_iff_ne.2 d1
          have b2 : (c == 76) = false := beq_eq_false_iff_ne.2 d2
          have b3 : (c == 78) = false := beq_eq_false_iff_ne.2 d3
          have b4 : (c == 84) = false := beq_eq_false_iff_ne.2 d4
          have b5 : (c == 120) = false := beq_eq_false_iff_ne.2 d5
          have b6 : (c == 110) = false := beq_eq_false_iff_ne.2 d6
          have b7 : (c == 111) = false := beq_eq_false_iff_ne.2 d7
          clear d1 d2 d3 d4 d5 d6 d7
          go_wp2_with fail
          refine ((unhide KW) _ _ _ _ _ hD).mono ?_
          rintro e2 w2 ⟨rfl, hD2⟩
          clear hD
          generalize rfx zs a e = q1 at *
          obtain ⟨u1, a1, e1⟩ := q1
          simp only at HNX hD2
          have c3 := hD2.cells.2.2.2.2.2.2.2
          have fz := hD2.soft 7
          have HD3 := hide (hD2.put (x' := ⟨kd, lo, hi, nn, tt, nm, ot, u1⟩) 7 (.float .f64 u1) rfl rfl)
          have HX := hide HNX
          clear HNX hD2
          go_wp2
          go_roundw
          case rel => exact ⟨k + 1, ⟨kd, lo, hi, nn, tt, nm, ot, u1⟩, vt, a1, e1, by go_num, by omega, unhide HX, by show tt.length ≤ _; omega, unhide HD3⟩
          case measure => simp [intOf]; omega
      · obtain rfl : k = fs.size := by omega
        have hrs := unhide HRS0
        rw [(unhide HEND), hls] at hrs
        subst hrs
        obtain ⟨tao, tcap, hvt, _, _⟩ := hD.ro.2.1.sk.shape
        simp only at hvt
        subst hvt
        clear HIX HCB HSTEP KU KT KW HUR HRS0 HEND
        obtain ⟨c0, c1, c2, c3, c4, c5, c6, c7⟩ := hD.cells
        obtain ⟨y0, y1, y2, y3, y4, y5, y6, y7⟩ := cells8 hD.res
        have f0 := fun j => frozen_of (j := j) hD.res
        have hfl2 : ∀ W a m, (store a (.float .f64 wt) m).run Tryz.prog W = stored Tryz.prog W a (.float .f64 wt) m := fun W a m => run_store Tryz.prog W a _ m rfl
        have hgg : W1.heap.size ≠ W0.heap.size := by have := hD.e1; omega
        have HN := hide hD.fin
        clear hD 
        go_wp2
        obtain ⟨hnew, hfin⟩ := unhide HN
        clear HN y0 y1 y2 y3 y4 y5 y6 y7 c0 c1 c2 c3 c4 c5 c6 c7 f0 hgg
        generalize (World.setCell (World.setCell (World.setCell (World.setCell (World.setCell (World.setCell (World.setCell (World.setCell wr ⟨W0.heap.size, 0, none⟩ (.int .i64 kd)) ⟨W0.heap.size, 1, none⟩ (.int .i64 lo)) ⟨W0.heap.size, 2, none⟩ (.int .i64 hi)) ⟨W0.heap.size, 3, none⟩ (.int .i64 nn)) ⟨W0.heap.size, 4, none⟩ (.slice tao tt.length tcap)) ⟨W0.heap.size, 5, none⟩ (.string nm)) ⟨W0.heap.size, 6, none⟩ (.string ot)) ⟨W0.heap.size, 7, none⟩ (.float .f64 wt)) = w9 at *
        obtain ⟨z0, z1, z2, z3, z4, z5, z6, z7⟩ := cells8 hnew
        refine bodyPost_ret (v := .agg (rarr ⟨kd, lo, hi, nn, tt, nm, ot, wt⟩ (.slice tao tt.length tcap))) (by simp [results, Tryz.results38, go_sem, z0, z1, z2, z3, z4, z5, z6, z7, rarr]) rfl hfin
end Go.Proofs.YtdnkfnccbmbpaaaGreatDoor
