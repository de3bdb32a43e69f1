import Derived.Test.YtceflkeaenepcaaGreatDoorN21
import Derived.Test.YtceflkeaenepcaaGreatDoorN32
namespace Go.Proofs.YtceflkeaenepcaaGreatDoor
open Go.RowKit
set_option maxRecDepth 8000 in
set_option maxHeartbeats 4000000 in
theorem readWords_a (kk : Nat) (ty : TypeId) (fs : List Nat) (g cap : Nat) (en : Int) (tx : Nat → ByteArray) (ps : Nat → Int) (T : Nat → Nat → World → Prop) (w : World) (hg : Glob w) (hs : Sn.Glob w)
    (hcap : fs.length + 1 ≤ cap) (hcap2 : cap ≤ 9223372036854775807) (hf : 0 < fs.length) (hkk : kk < 16)
    (hw0 : ∀ j, j < fs.length + 1 → w.cell? ⟨g, j * 2, none⟩ = some (.string (tx j))) (hw1 : ∀ j, j < fs.length + 1 → w.cell? ⟨g, j * 2 + 1, none⟩ = some (.int .i64 (ps j)))
    (hk : ∀ w, Glob w → Calls Tryz.prog 48 #[.string (tx 0)] w fun e w' => e = .returned (.int .i64 kk) ∧ w' = w)
    (hsh : shape kk = .iface ty (.agg #[.int .i64 kk])) (hfam : Cn.fam kk ≠ 0)
    (hmf : ∀ w, (method 543 ty (.agg #[.int .i64 kk]) "endonym/table.family").run Tryz.prog w = .ok (27, .agg #[.int .i64 kk]) w)
    (hst : ∀ b w, Dr w b (.iface ty (.agg #[.int .i64 kk])) kk 0 0 0 (.slice none 0 0) 0 → Glob w → Calls Tryz.prog 49 #[.pointer (some ⟨b, 0, none⟩)] w (StB w b fs fs.length))
    (hT0 : ∀ b w, Dr w b (.iface ty (.agg #[.int .i64 kk])) kk 0 0 0 (.slice none 0 0) 0 → T b 0 w)
    (hTk : ∀ b j w w', T b j w → (∀ k, b ≤ k → k < w.heap.size → w'.heap[k]? = w.heap[k]?) → T b j w') (hTl : ∀ b j w, T b j w → b < w.heap.size)
    (hTs : ∀ b j w, j < fs.length → T b j w → Glob w → Sn.Glob w → Calls Tryz.prog (fs.getD j 0) #[.pointer (some ⟨b, 0, none⟩), .string (tx (j + 1))] w fun e w' => e = .returned (.bool true) ∧ T b (j + 1) w' ∧ Gb b w w')
    (hen : ∀ j, j < fs.length → ∀ args w, (callFunc (fs.getD j 0) args).run Tryz.prog w = .ok (.enter (fs.getD j 0) args) w)
    (hTe : ∀ b w, T b fs.length w → ∃ lo hi n ao ln cp wt, Dr w b (.iface ty (.agg #[.int .i64 kk])) kk lo hi n (.slice ao ln cp) wt) :
    Calls Tryz.prog 36 #[.slice (some ⟨g, 0, none⟩) (fs.length + 1) cap, .int .i64 en] w fun e w' =>
      ∃ b lo hi n to wt, e = .returned (.tuple #[.agg #[.int .i64 kk, .int .i64 lo, .int .i64 hi, .int .i64 n, to, .string ⟨#[]⟩, .string ⟨#[]⟩, .float .f64 wt], .int .i64 0, .int .i64 0]) ∧ T b fs.length w' ∧
        Dr w' b (.iface ty (.agg #[.int .i64 kk])) kk lo hi n to wt ∧ w.heap.size ≤ b ∧ Below w.heap.size w w' := by
  have c0 := hw0 0 (by omega)
  have hgl := lt_of_cell? c0
  rw [Nat.zero_mul] at c0
  have B0 : ∀ o, Below w.heap.size w (w.alloc o) := fun o => (Below.refl w.heap.size w).alloc (Nat.le_refl _) _
  have K : Hid (∀ o, Calls Tryz.prog 48 #[.string (tx 0)] (w.alloc o) fun e w' => e = .returned (.int .i64 kk) ∧ w' = w.alloc o) := hide fun o => hk _ (hg.on (B0 o))
  have hI : I64 (kk : Int) := by unfold I64; omega
  have K2 : Hid (∀ o, Calls Tryz.prog 22 #[.int .i64 kk] (w.alloc o) fun e w1 => e = .returned (.iface ty (.agg #[.int .i64 kk])) ∧ Below (w.alloc o).heap.size (w.alloc o) w1) := hide fun o => by rw [← hsh]; exact shapeOf_any _ _ hI
  generalize tx 0 = t0 at c0 K
  go_enter Tryz.func36, Tryz.ntmps36
  go_wp2_with fail
  refine ((unhide K) _).mono ?_
  rintro e w1 ⟨rfl, rfl⟩
  go_wp2_with fail
  refine ((unhide K2) _).mono ?_
  rintro e w1 ⟨rfl, hb⟩
  go_wp2_with fail
  have hb1 : Below w.heap.size w w1 := (B0 _).trans (hb.mono (B0 _).size)
  have hsz1 : w.heap.size < w1.heap.size := by have := hb.size; simp at this; omega
  have hr1 : w1.heap[w.heap.size]? = some (.cells #[.int .i64 0, .int .i64 0, .int .i64 0, .int .i64 0, .slice none 0 0, .string ⟨#[]⟩, .string ⟨#[]⟩, .float .f64 0] 29 (0, 0)) := by
    rw [hb.block _ (by simp)]
    exact heap_new w _
  have b1 : Below w.heap.size w (w1.alloc (.cells #[.iface ty (.agg #[.int .i64 kk]), .int .i64 kk, .int .i64 0, .int .i64 0, .int .i64 0, .slice none 0 0, .string ⟨#[]⟩, .string ⟨#[]⟩, .float .f64 0] 108)) := hb1.alloc (by omega) _
  have d1 := heap_new w1 (.cells #[.iface ty (.agg #[.int .i64 kk]), .int .i64 kk, .int .i64 0, .int .i64 0, .int .i64 0, .slice none 0 0, .string ⟨#[]⟩, .string ⟨#[]⟩, .float .f64 0] 108)
  have hr1' : (w1.alloc (.cells #[.iface ty (.agg #[.int .i64 kk]), .int .i64 kk, .int .i64 0, .int .i64 0, .int .i64 0, .slice none 0 0, .string ⟨#[]⟩, .string ⟨#[]⟩, .float .f64 0] 108)).heap[w.heap.size]? = some (.cells #[.int .i64 0, .int .i64 0, .int .i64 0, .int .i64 0, .slice none 0 0, .string ⟨#[]⟩, .string ⟨#[]⟩, .float .f64 0] 29 (0, 0)) := by
    rw [((Below.refl w1.heap.size w1).alloc (Nat.le_refl _) _).block _ hsz1]
    exact hr1
  have hsa : w1.heap.size < (w1.alloc (.cells #[.iface ty (.agg #[.int .i64 kk]), .int .i64 kk, .int .i64 0, .int .i64 0, .int .i64 0, .slice none 0 0, .string ⟨#[]⟩, .string ⟨#[]⟩, .float .f64 0] 108)).heap.size := by simp
  clear hb K K2 hb1 hr1
  refine (sharedFam_any kk _ (hg.on b1) hI).mono ?_
  rintro e w2 ⟨rfl, hb2⟩
  have d2 : Dr w2 w1.heap.size (.iface ty (.agg #[.int .i64 kk])) kk 0 0 0 (.slice none 0 0) 0 := by
    unfold Dr
    rw [hb2.block _ hsa]
    exact d1
  have hr2 : w2.heap[w.heap.size]? = some (.cells #[.int .i64 0, .int .i64 0, .int .i64 0, .int .i64 0, .slice none 0 0, .string ⟨#[]⟩, .string ⟨#[]⟩, .float .f64 0] 29 (0, 0)) := by
    rw [hb2.block _ (by omega)]
    exact hr1'
  have b2 : Below w.heap.size w w2 := b1.trans (hb2.mono b1.size)
  have hl2 : w1.heap.size < w2.heap.size := by have := hb2.size; omega
  clear b1 d1 hr1' hsa hb2
  generalize w1.heap.size = b at *
  have hfe : (Cn.fam kk == 0) = false := by simpa using hfam
  have KS := hide (hst b w2 d2 (hg.on b2))
  have HT0 := hide (hT0 b w2 d2)
  have HG := hide hg
  have HS := hide hs
  have H0 := hide hw0
  have H1 := hide hw1
  have HTk := hide hTk
  have HTl := hide hTl
  have HTs := hide hTs
  have HTe := hide hTe
  have HEN := hide hen
  clear hen hst hT0 hg hs hw0 hw1 hTk hTl hTs hTe hk hsh hfam B0
  go_wp2_with fail
  refine (unhide KS).mono ?_
  rintro e w3 ⟨v, rfl, own3, b3⟩
  obtain ⟨gs, caps, rfl, hcs, hcs2⟩ := own_shape own3.2 (by simp; exact hf)
  have hgs := (own3.2.lt gs rfl)
  have hcell : Hid (∀ j, j < fs.length → w3.cell? ⟨gs, j, none⟩ = some (stF (fs.getD j 0) b)) := hide (by
    intro j hj
    have q := own3.2.cells (g := gs) rfl j (stF (fs.getD j 0) b) (by simp [List.getElem?_eq_getElem hj])
    rw [addr_add] at q
    simpa using q)
  have T3 : Hid (T b 0 w3) := hide ((unhide HTk) b 0 w2 w3 (unhide HT0) (fun k _ hk => b3.block k hk))
  have hr3 : Hid (w3.heap[w.heap.size]? = some (.cells #[.int .i64 0, .int .i64 0, .int .i64 0, .int .i64 0, .slice none 0 0, .string ⟨#[]⟩, .string ⟨#[]⟩, .float .f64 0] 29 (0, 0))) := hide (by
    rw [b3.block _ (by omega)]
    exact hr2)
  have BB : Hid (Below w.heap.size w w3) := hide (b2.trans (b3.mono b2.size))
  have hml : (fs.map (stF · b)).length = fs.length := by simp
  rw [hml]
  clear KS HT0 own3 b3 hr2 d2 b2 hml c0 hcs
  have hgb : b < gs := by omega
  have hg3 : gs < w3.heap.size := hgs.2
  clear hgs hl2
  generalize hm : fs.length = m at *
  have HM := hide hm
  clear hm
  go_wp2
  go_loopw [5, 6, 12, 13, 45] (fun _ _ _ _ iv wr => ∃ j : Nat, iv = .int .i64 j ∧ j ≤ m ∧ T b j wr ∧ Below w.heap.size w wr ∧ wr.heap[w.heap.size]? = some (.cells #[.int .i64 0, .int .i64 0, .int .i64 0, .int .i64 0, .slice none 0 0, .string ⟨#[]⟩, .string ⟨#[]⟩, .float .f64 0] 29 (0, 0)) ∧ ∀ i, i < m → wr.cell? ⟨gs, i, none⟩ = some (stF (fs.getD i 0) b)) (fun _ _ _ _ iv _ => m - (intOf iv).toNat)
  case atStart => exact ⟨0, rfl, Nat.zero_le _, unhide T3, unhide BB, unhide hr3, unhide hcell⟩
  case round =>
    obtain ⟨j, rfl, hj, hT, hB, hR, hC⟩ := hrel
    clear T3 BB hr3 hcell
    by_cases hlt : j < m
    · have x0 := (unhide H0) (j + 1) (by omega)
      have x1 := (unhide H1) (j + 1) (by omega)
      rw [← hB.cell (lt_of_cell? x0)] at x0
      rw [← hB.cell (lt_of_cell? x1)] at x1
      have e2 : (j + 1) * 2 = 2 + j * 2 := by omega
      rw [e2] at x0 x1
      have KT := (unhide HTs) b j (wr.alloc (.cells #[.string (tx (j + 1)), .int .i64 (ps (j + 1))] 84)).drew hlt ((unhide HTk) b j wr _ hT (fun k _ hk => (((Below.refl wr.heap.size wr).alloc (Nat.le_refl _) _).drew).block k hk)) ((unhide HG).on ((hB.alloc hB.size _).drew)) ((unhide HS).on ((hB.alloc hB.size _).drew))
      have bx := ((hB.alloc hB.size (.cells #[.string (tx (j + 1)), .int .i64 (ps (j + 1))] 84)).drew)
      have hbw := (unhide HTl) b j wr hT
      generalize tx (j + 1) = tj at x0 KT bx
      generalize ps (j + 1) = pj at x1 KT bx
      have hCj := hC j hlt
      have enj := (unhide HEN) j hlt
      have hgw : gs < wr.heap.size := lt_of_cell? hCj
      have KC : Hid (Calls Tryz.prog (fs.getD j 0) #[.pointer (some ⟨b, 0, none⟩), .string tj] (wr.alloc (.cells #[.string tj, .int .i64 pj] 84)).drew fun e w' => e = .returned (.bool true) ∧ (w'.cell? ⟨gs, j, none⟩ = some (.func (.func (fs.getD j 0)) #[.pointer (some ⟨b, 0, none⟩)] #[]) ∧ w'.cell? ⟨wr.heap.size, 0, none⟩ = some (.string tj)) ∧ T b (j + 1) w' ∧ Below w.heap.size w w' ∧ w'.heap[w.heap.size]? = some (.cells #[.int .i64 0, .int .i64 0, .int .i64 0, .int .i64 0, .slice none 0 0, .string ⟨#[]⟩, .string ⟨#[]⟩, .float .f64 0] 29 (0, 0)) ∧ ∀ i, i < m → w'.cell? ⟨gs, i, none⟩ = some (stF (fs.getD i 0) b)) := hide (KT.mono (by
        rintro e w' ⟨rfl, ht, hgb'⟩
        have far : ∀ k o, k < wr.heap.size + 1 → k ≠ b → w'.cell? ⟨k, o, none⟩ = (wr.alloc (.cells #[.string tj, .int .i64 pj] 84)).cell? ⟨k, o, none⟩ := fun k o hk hn => World.cell?_of_block (hgb'.block k (by simpa using hk) (by simpa using hn))
        have near : ∀ k o, k < wr.heap.size → (wr.alloc (.cells #[.string tj, .int .i64 pj] 84)).cell? ⟨k, o, none⟩ = wr.cell? ⟨k, o, none⟩ := fun k o hk => ((Below.refl wr.heap.size wr).alloc (Nat.le_refl _) _).cell hk
        refine ⟨rfl, ⟨?_, ?_⟩, ht, bx.trans (hgb'.below (by omega) bx.size), ?_, fun i hi => ?_⟩
        · rw [far gs j (by omega) (by omega), near gs j hgw]; exact hCj
        · rw [far _ 0 (by omega) (by omega)]; exact obj_cell (heap_new wr _) 0 (by simp)
        · rw [hgb'.block _ (by simp; have := hB.size; omega) (by simp; omega)]
          have := ((Below.refl wr.heap.size wr).alloc (Nat.le_refl _) (.cells #[.string tj, .int .i64 pj] 84)).block w.heap.size (by omega)
          exact this.trans hR
        · rw [far gs i (by omega) (by omega), near gs i hgw]; exact hC i hi))
      have s0 : (wr.alloc (.cells #[.string tj, .int .i64 pj] 84)).drew.cell? ⟨gs, j, none⟩ = some (.func (.func (fs.getD j 0)) #[.pointer (some ⟨b, 0, none⟩)] #[]) ∧ (wr.alloc (.cells #[.string tj, .int .i64 pj] 84)).drew.cell? ⟨wr.heap.size, 0, none⟩ = some (.string tj) := ⟨(((Below.refl wr.heap.size wr).alloc (Nat.le_refl _) _).cell hgw).trans hCj, obj_cell (heap_new wr _) 0 (by simp)⟩
      have S0 := hide s0
      clear KT bx s0 hCj
      generalize fs.getD j 0 = fj at *
      clear hT hB hR hC
      go_wp2
      refine wp_region_held_drew (S := fun w' => w'.cell? ⟨gs, j, none⟩ = some (.func (.func fj) #[.pointer (some ⟨b, 0, none⟩)] #[]) ∧ w'.cell? ⟨wr.heap.size, 0, none⟩ = some (.string tj)) (by kernel_rfl) (unhide S0) (fun hHeld => ?_)
      refine wpAnyH_take (i := 0) (oi := { dst := some 50, op := Op.move (Operand.tmp 12), type := 3, pos := "read.go:54", after := #[], guard := none }) (v := .int .i64 j) rfl (by kernel_rfl) (by kernel_rfl) (by kernel_rfl) (fun _ _ _ h => h) (Or.inl ⟨by rfl, ?_⟩) hHeld ?_
      · intro w hSw
        go_simp
      try simp only [Act.put, List.setIfInBounds_toArray, List.set_cons_zero, List.set_cons_succ]
      refine wpAnyH_take (i := 1) (oi := { dst := some 51, op := Op.move (Operand.tmp 9), type := 109, pos := "read.go:54", after := #[], guard := none }) (v := .slice (some ⟨gs, 0, none⟩) m caps) rfl (by kernel_rfl) (by kernel_rfl) (by kernel_rfl) (fun _ _ _ h => h) (Or.inl ⟨by rfl, ?_⟩) hHeld ?_
      · intro w hSw
        go_simp
      try simp only [Act.put, List.setIfInBounds_toArray, List.set_cons_zero, List.set_cons_succ]
      refine wpAnyH_take (i := 2) (oi := { dst := some 52, op := Op.call { callee := Callee.builtin Builtin.len, args := #[Operand.tmp 51], argTypes := #[109] }, type := 3, pos := "read.go:54", after := #[{ on := 1, ground := Ground.data }], guard := none }) (v := .int .i64 m) rfl (by kernel_rfl) (by kernel_rfl) (by kernel_rfl) (fun _ _ _ h => h) (Or.inl ⟨by rfl, ?_⟩) hHeld ?_
      · intro w hSw
        go_simp
      try simp only [Act.put, List.setIfInBounds_toArray, List.set_cons_zero, List.set_cons_succ]
      refine wpAnyH_take (i := 3) (oi := { dst := some 53, op := Op.binOp BinOp.geq 3 (Operand.tmp 50) (Operand.tmp 52) 3, type := 4, pos := "read.go:54", after := #[{ on := 0, ground := Ground.data }, { on := 2, ground := Ground.data }], guard := none }) (v := .bool false) rfl (by kernel_rfl) (by kernel_rfl) (by kernel_rfl) (fun _ _ _ h => h) (Or.inl ⟨by rfl, ?_⟩) hHeld ?_
      · intro w hSw
        first | (go_simp; done) | (go_simp; simp; omega) | (go_simp; omega)
      try simp only [Act.put, List.setIfInBounds_toArray, List.set_cons_zero, List.set_cons_succ]
      refine wpAnyH_take (i := 4) (oi := { dst := some 54, op := Op.move (Operand.tmp 53), type := 4, pos := "read.go:54", after := #[{ on := 3, ground := Ground.data }], guard := none }) (v := .bool false) rfl (by kernel_rfl) (by kernel_rfl) (by kernel_rfl) (fun _ _ _ h => h) (Or.inl ⟨by rfl, ?_⟩) hHeld ?_
      · intro w hSw
        go_simp
      try simp only [Act.put, List.setIfInBounds_toArray, List.set_cons_zero, List.set_cons_succ]
      refine wpAnyH_take (i := 5) (oi := { dst := some 55, op := Op.move (Operand.tmp 9), type := 109, pos := "read.go:54", after := #[{ on := 4, ground := Ground.guard }], guard := some (4, false) }) (v := .slice (some ⟨gs, 0, none⟩) m caps) rfl (by kernel_rfl) (by kernel_rfl) (by kernel_rfl) (fun _ _ _ h => h) (Or.inl ⟨by rfl, ?_⟩) hHeld ?_
      · intro w hSw
        go_simp
      try simp only [Act.put, List.setIfInBounds_toArray, List.set_cons_zero, List.set_cons_succ]
      refine wpAnyH_take (i := 6) (oi := { dst := some 56, op := Op.move (Operand.tmp 12), type := 3, pos := "read.go:54", after := #[{ on := 4, ground := Ground.guard }], guard := some (4, false) }) (v := .int .i64 j) rfl (by kernel_rfl) (by kernel_rfl) (by kernel_rfl) (fun _ _ _ h => h) (Or.inl ⟨by rfl, ?_⟩) hHeld ?_
      · intro w hSw
        go_simp
      try simp only [Act.put, List.setIfInBounds_toArray, List.set_cons_zero, List.set_cons_succ]
      refine wpAnyH_take (i := 7) (oi := { dst := some 57, op := Op.indexAddr 109 (Operand.tmp 55) (Operand.tmp 56), type := 0, pos := "read.go:54", after := #[{ on := 5, ground := Ground.data }, { on := 6, ground := Ground.data }, { on := 4, ground := Ground.guard }], guard := some (4, false) }) (v := .pointer (some ⟨gs, j, none⟩)) rfl (by kernel_rfl) (by kernel_rfl) (by kernel_rfl) (fun _ _ _ h => h) (Or.inl ⟨by rfl, ?_⟩) hHeld ?_
      · intro w hSw
        go_simp
      try simp only [Act.put, List.setIfInBounds_toArray, List.set_cons_zero, List.set_cons_succ]
      refine wpAnyH_take (i := 8) (oi := { dst := some 58, op := Op.load 113 (Operand.tmp 57), type := 113, pos := "read.go:54", after := #[{ on := 7, ground := Ground.data }, { on := 4, ground := Ground.guard }], guard := some (4, false) }) (v := .func (.func fj) #[.pointer (some ⟨b, 0, none⟩)] #[]) rfl (by kernel_rfl) (by kernel_rfl) (by kernel_rfl) (fun _ _ _ h => h) (Or.inl ⟨by rfl, ?_⟩) hHeld ?_
      · intro w hSw
        obtain ⟨q1, q2⟩ := hSw; go_simp
      try simp only [Act.put, List.setIfInBounds_toArray, List.set_cons_zero, List.set_cons_succ]
      refine wpAnyH_take (i := 9) (oi := { dst := some 59, op := Op.fieldAddr 84 (Operand.tmp 13) 0, type := 0, pos := "read.go:54", after := #[{ on := 4, ground := Ground.guard }], guard := some (4, false) }) (v := .pointer (some ⟨wr.heap.size, 0, none⟩)) rfl (by kernel_rfl) (by kernel_rfl) (by kernel_rfl) (fun _ _ _ h => h) (Or.inl ⟨by rfl, ?_⟩) hHeld ?_
      · intro w hSw
        go_simp
      try simp only [Act.put, List.setIfInBounds_toArray, List.set_cons_zero, List.set_cons_succ]
      refine wpAnyH_take (i := 10) (oi := { dst := some 60, op := Op.load 9 (Operand.tmp 59), type := 9, pos := "read.go:54", after := #[{ on := 9, ground := Ground.data }, { on := 4, ground := Ground.guard }], guard := some (4, false) }) (v := .string tj) rfl (by kernel_rfl) (by kernel_rfl) (by kernel_rfl) (fun _ _ _ h => h) (Or.inl ⟨by rfl, ?_⟩) hHeld ?_
      · intro w hSw
        obtain ⟨q1, q2⟩ := hSw; go_simp
      try simp only [Act.put, List.setIfInBounds_toArray, List.set_cons_zero, List.set_cons_succ]
      refine wpAnyH_ready (rs := [11]) (by kernel_rfl) (by simp) ?_
      refine AllReadyH.cons (o := { dst := some 61, op := Op.call { callee := Callee.value (Operand.tmp 58), args := #[Operand.tmp 60], argTypes := #[9] }, type := 4, pos := "read.go:54", after := #[{ on := 8, ground := Ground.data }, { on := 10, ground := Ground.data }, { on := 4, ground := Ground.chain }, { on := 4, ground := Ground.guard }], guard := some (4, false) }) rfl (fun K hK => ?_) AllReadyH.nil
      go_simp
      refine (unhide KC).mono ?_
      rintro e w6 ⟨rfl, hS6, hT6, hB6, hR6, hC6⟩
      refine hK.out _ _ ?_ (fun hHeld => ?_)
      · exact hS6
      clear hK K
      try simp only [Act.put, List.setIfInBounds_toArray, List.set_cons_zero, List.set_cons_succ]
      refine wpAnyH_take (i := 12) (oi := { dst := some 62, op := Op.unOp UnOp.not 4 (Operand.tmp 61), type := 4, pos := "read.go:54", after := #[{ on := 11, ground := Ground.data }, { on := 4, ground := Ground.guard }], guard := some (4, false) }) (v := .bool false) rfl (by kernel_rfl) (by kernel_rfl) (by kernel_rfl) (fun _ _ _ h => h) (Or.inl ⟨by rfl, ?_⟩) hHeld ?_
      · intro w hSw
        go_simp
      try simp only [Act.put, List.setIfInBounds_toArray, List.set_cons_zero, List.set_cons_succ]
      refine wpAnyH_take (i := 13) (oi := { dst := some 63, op := Op.pick (Operand.tmp 54) (Operand.const (Value.bool true)) (Operand.tmp 62), type := 4, pos := "read.go:54", after := #[{ on := 4, ground := Ground.data }, { on := 12, ground := Ground.data }], guard := none }) (v := .bool false) rfl (by kernel_rfl) (by kernel_rfl) (by kernel_rfl) (fun _ _ _ h => h) (Or.inl ⟨by rfl, ?_⟩) hHeld ?_
      · intro w hSw
        go_simp
      try simp only [Act.put, List.setIfInBounds_toArray, List.set_cons_zero, List.set_cons_succ]
      refine wpAnyH_done (by kernel_rfl) ?_ _
      have HT6 := hide hT6
      have HB6 := hide hB6
      have HR6 := hide hR6
      have HC6 := hide hC6
      clear hT6 hB6 hR6 hC6 hS6 KC enj S0 x0 x1 hgw hbw
      go_wp2
      go_round
      case rel => exact ⟨j + 1, by go_num, by omega, unhide HT6, unhide HB6, unhide HR6, unhide HC6⟩
      case measure => simp [intOf]; omega
    · obtain rfl : j = m := by omega
      have hT' : T b fs.length wr := by rw [unhide HM]; exact hT
      have HTe' := (unhide HTe) b wr
      rw [← unhide HM] at HTe'
      obtain ⟨lo, hi, n, ao, ln, cp, wt, hD⟩ := HTe' hT'
      have y1 : wr.cell? ⟨b, 1, none⟩ = some (.int .i64 kk) := hD.c 1 (by omega)
      have y2 : wr.cell? ⟨b, 2, none⟩ = some (.int .i64 lo) := hD.c 2 (by omega)
      have y3 : wr.cell? ⟨b, 3, none⟩ = some (.int .i64 hi) := hD.c 3 (by omega)
      have y4 : wr.cell? ⟨b, 4, none⟩ = some (.int .i64 n) := hD.c 4 (by omega)
      have y5 : wr.cell? ⟨b, 5, none⟩ = some (.slice ao ln cp) := hD.c 5 (by omega)
      have y6 : wr.cell? ⟨b, 6, none⟩ = some (.string ⟨#[]⟩) := hD.c 6 (by omega)
      have y7 : wr.cell? ⟨b, 7, none⟩ = some (.string ⟨#[]⟩) := hD.c 7 (by omega)
      have y8 : wr.cell? ⟨b, 8, none⟩ = some (.float .f64 wt) := hD.c 8 (by omega)
      have hnew := putR_at (off := 0) hR (⟨kk, lo, hi, n, [], ⟨#[]⟩, ⟨#[]⟩, wt⟩, .slice ao ln cp)
      have hfar : ∀ k, k ≠ w.heap.size → (putR wr w.heap.size 0 (⟨kk, lo, hi, n, [], ⟨#[]⟩, ⟨#[]⟩, wt⟩, .slice ao ln cp)).heap[k]? = wr.heap[k]? := fun k hk => putR_far _ hk
      have hbel := putR_below (off := 0) hB (Nat.le_refl _) (⟨kk, lo, hi, n, [], ⟨#[]⟩, ⟨#[]⟩, wt⟩, .slice ao ln cp)
      have q0 : wr.cell? ⟨w.heap.size, 0, none⟩ = some (.int .i64 0) := obj_cell hR 0 (by simp)
      have q1 : wr.cell? ⟨w.heap.size, 1, none⟩ = some (.int .i64 0) := obj_cell hR 1 (by simp)
      have q2 : wr.cell? ⟨w.heap.size, 2, none⟩ = some (.int .i64 0) := obj_cell hR 2 (by simp)
      have q3 : wr.cell? ⟨w.heap.size, 3, none⟩ = some (.int .i64 0) := obj_cell hR 3 (by simp)
      have q4 : wr.cell? ⟨w.heap.size, 4, none⟩ = some (.slice none 0 0) := obj_cell hR 4 (by simp)
      have q5 : wr.cell? ⟨w.heap.size, 5, none⟩ = some (.string ⟨#[]⟩) := obj_cell hR 5 (by simp)
      have q6 : wr.cell? ⟨w.heap.size, 6, none⟩ = some (.string ⟨#[]⟩) := obj_cell hR 6 (by simp)
      have q7 : wr.cell? ⟨w.heap.size, 7, none⟩ = some (.float .f64 0) := obj_cell hR 7 (by simp)
      have f0 : wr.frozen? ⟨w.heap.size, 0, none⟩ = false := frozen_of6 hR
      have f1 : wr.frozen? ⟨w.heap.size, 1, none⟩ = false := frozen_of6 hR
      have f2 : wr.frozen? ⟨w.heap.size, 2, none⟩ = false := frozen_of6 hR
      have f3 : wr.frozen? ⟨w.heap.size, 3, none⟩ = false := frozen_of6 hR
      have f4 : wr.frozen? ⟨w.heap.size, 4, none⟩ = false := frozen_of6 hR
      have f5 : wr.frozen? ⟨w.heap.size, 5, none⟩ = false := frozen_of6 hR
      have f6 : wr.frozen? ⟨w.heap.size, 6, none⟩ = false := frozen_of6 hR
      have f7 : wr.frozen? ⟨w.heap.size, 7, none⟩ = false := frozen_of6 hR
      have hfl : ∀ W a m, (store a (.float .f64 wt) m).run Tryz.prog W = stored Tryz.prog W a (.float .f64 wt) m := fun W a m => run_store Tryz.prog W a _ m rfl
      have FT : Hid (T b j ((((((((wr.setCell ⟨w.heap.size, 0, none⟩ (.int .i64 kk)).setCell ⟨w.heap.size, 1, none⟩ (.int .i64 lo)).setCell ⟨w.heap.size, 2, none⟩ (.int .i64 hi)).setCell ⟨w.heap.size, 3, none⟩ (.int .i64 n)).setCell ⟨w.heap.size, 4, none⟩ (.slice ao ln cp)).setCell ⟨w.heap.size, 5, none⟩ (.string ⟨#[]⟩)).setCell ⟨w.heap.size, 6, none⟩ (.string ⟨#[]⟩)).setCell ⟨w.heap.size, 7, none⟩ (.float .f64 wt))) := hide ((unhide HTk) b j wr (putR wr w.heap.size 0 (⟨kk, lo, hi, n, [], ⟨#[]⟩, ⟨#[]⟩, wt⟩, .slice ao ln cp)) hT (fun k hk _ => hfar k (by omega)))
      have FD : Hid (Dr ((((((((wr.setCell ⟨w.heap.size, 0, none⟩ (.int .i64 kk)).setCell ⟨w.heap.size, 1, none⟩ (.int .i64 lo)).setCell ⟨w.heap.size, 2, none⟩ (.int .i64 hi)).setCell ⟨w.heap.size, 3, none⟩ (.int .i64 n)).setCell ⟨w.heap.size, 4, none⟩ (.slice ao ln cp)).setCell ⟨w.heap.size, 5, none⟩ (.string ⟨#[]⟩)).setCell ⟨w.heap.size, 6, none⟩ (.string ⟨#[]⟩)).setCell ⟨w.heap.size, 7, none⟩ (.float .f64 wt)) b (.iface ty (.agg #[.int .i64 kk])) kk lo hi n (.slice ao ln cp) wt) := hide (by
        show Dr (putR wr w.heap.size 0 (⟨kk, lo, hi, n, [], ⟨#[]⟩, ⟨#[]⟩, wt⟩, .slice ao ln cp)) b (.iface ty (.agg #[.int .i64 kk])) kk lo hi n (.slice ao ln cp) wt
        unfold Dr; rw [hfar b (by omega)]; exact hD)
      have FB : Hid (Below w.heap.size w ((((((((wr.setCell ⟨w.heap.size, 0, none⟩ (.int .i64 kk)).setCell ⟨w.heap.size, 1, none⟩ (.int .i64 lo)).setCell ⟨w.heap.size, 2, none⟩ (.int .i64 hi)).setCell ⟨w.heap.size, 3, none⟩ (.int .i64 n)).setCell ⟨w.heap.size, 4, none⟩ (.slice ao ln cp)).setCell ⟨w.heap.size, 5, none⟩ (.string ⟨#[]⟩)).setCell ⟨w.heap.size, 6, none⟩ (.string ⟨#[]⟩)).setCell ⟨w.heap.size, 7, none⟩ (.float .f64 wt))) := hide hbel
      have FN : Hid (((((((((wr.setCell ⟨w.heap.size, 0, none⟩ (.int .i64 kk)).setCell ⟨w.heap.size, 1, none⟩ (.int .i64 lo)).setCell ⟨w.heap.size, 2, none⟩ (.int .i64 hi)).setCell ⟨w.heap.size, 3, none⟩ (.int .i64 n)).setCell ⟨w.heap.size, 4, none⟩ (.slice ao ln cp)).setCell ⟨w.heap.size, 5, none⟩ (.string ⟨#[]⟩)).setCell ⟨w.heap.size, 6, none⟩ (.string ⟨#[]⟩)).setCell ⟨w.heap.size, 7, none⟩ (.float .f64 wt)).heap[w.heap.size]? = some (.cells #[.int .i64 kk, .int .i64 lo, .int .i64 hi, .int .i64 n, .slice ao ln cp, .string ⟨#[]⟩, .string ⟨#[]⟩, .float .f64 wt] 29 (0, 0))) := hide hnew
      clear hT hT' HTe' hB hR hC hD hnew hfar hbel
      go_wp2
      generalize ((((((((wr.setCell ⟨w.heap.size, 0, none⟩ (.int .i64 kk)).setCell ⟨w.heap.size, 1, none⟩ (.int .i64 lo)).setCell ⟨w.heap.size, 2, none⟩ (.int .i64 hi)).setCell ⟨w.heap.size, 3, none⟩ (.int .i64 n)).setCell ⟨w.heap.size, 4, none⟩ (.slice ao ln cp)).setCell ⟨w.heap.size, 5, none⟩ (.string ⟨#[]⟩)).setCell ⟨w.heap.size, 6, none⟩ (.string ⟨#[]⟩)).setCell ⟨w.heap.size, 7, none⟩ (.float .f64 wt)) = W9 at *
      have z0 : W9.cell? ⟨w.heap.size, 0, none⟩ = some (.int .i64 kk) := obj_cell (unhide FN) 0 (by simp)
      have z1 : W9.cell? ⟨w.heap.size, 1, none⟩ = some (.int .i64 lo) := obj_cell (unhide FN) 1 (by simp)
      have z2 : W9.cell? ⟨w.heap.size, 2, none⟩ = some (.int .i64 hi) := obj_cell (unhide FN) 2 (by simp)
      have z3 : W9.cell? ⟨w.heap.size, 3, none⟩ = some (.int .i64 n) := obj_cell (unhide FN) 3 (by simp)
      have z4 : W9.cell? ⟨w.heap.size, 4, none⟩ = some (.slice ao ln cp) := obj_cell (unhide FN) 4 (by simp)
      have z5 : W9.cell? ⟨w.heap.size, 5, none⟩ = some (.string ⟨#[]⟩) := obj_cell (unhide FN) 5 (by simp)
      have z6 : W9.cell? ⟨w.heap.size, 6, none⟩ = some (.string ⟨#[]⟩) := obj_cell (unhide FN) 6 (by simp)
      have z7 : W9.cell? ⟨w.heap.size, 7, none⟩ = some (.float .f64 wt) := obj_cell (unhide FN) 7 (by simp)
      show bodyPost Tryz.prog _ _ Exit.ret _ _
      refine bodyPost_ret (v := .tuple #[.agg #[.int .i64 kk, .int .i64 lo, .int .i64 hi, .int .i64 n, .slice ao ln cp, .string ⟨#[]⟩, .string ⟨#[]⟩, .float .f64 wt], .int .i64 0, .int .i64 0]) (by simp [results, Tryz.results36, go_sem, z0, z1, z2, z3, z4, z5, z6, z7]) rfl ?_
      exact ⟨b, lo, hi, n, .slice ao ln cp, wt, rfl, (by rw [unhide HM]; exact unhide FT), unhide FD, by omega, unhide FB⟩
end Go.Proofs.YtceflkeaenepcaaGreatDoor
