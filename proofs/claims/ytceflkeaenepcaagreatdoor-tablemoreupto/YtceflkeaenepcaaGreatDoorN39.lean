import Derived.Test.YtceflkeaenepcaaGreatDoorN3
namespace Go.Proofs.YtceflkeaenepcaaGreatDoor
open Go.RowKit
def Apart6 (ps : List (Rec × Value)) : Prop := ps.Pairwise (fun p q => ∀ g, p.2.ownBlock = some g → q.2.ownBlock ≠ some g)
def RecsApart6 (w : World) (rs : List Rec) (e : Ending) (w' : World) : Prop := ∃ v ps, e = .returned v ∧ ps.map (·.1) = rs ∧ Rown w' w.heap.size v ps ∧ Apart6 ps ∧ Below w.heap.size w w'
theorem apart_nil6 {ps : List (Rec × Value)} (h : Apart6 ps) (r : Rec) : Apart6 (ps ++ [(r, .slice none 0 0)]) := by
  refine List.pairwise_append.2 ⟨h, List.pairwise_singleton _ _, fun p _ q hq g _ => ?_⟩
  rw [List.mem_singleton] at hq
  subst hq
  simp [Value.ownBlock]
theorem apart_more6 {ps : List (Rec × Value)} {n : Nat} (h : Apart6 ps) (hl : ∀ p ∈ ps, ∀ g, p.2.ownBlock = some g → g < n) (r : Rec) {v : Value} (hv : ∀ g, v.ownBlock = some g → n ≤ g) : Apart6 (ps ++ [(r, v)]) := by
  refine List.pairwise_append.2 ⟨h, List.pairwise_singleton _ _, fun p hp q hq g hg e => ?_⟩
  rw [List.mem_singleton] at hq
  subst hq
  have h1 := hl p hp g hg
  have h2 := hv g e
  omega
theorem row_low6 {w : World} {B B' : Nat} {e : TypeId} {s n : Nat} {v : Value} {us : List Value} (h : w.ownsRow B e s v n us) (hB : B' ≤ B) : w.ownsRow B' e s v n us := ⟨h.1, by
  rcases h.2 with h1 | ⟨g, cap, cur, e, h2, h3⟩
  · exact .inl h1
  · exact .inr ⟨g, cap, cur, e, by omega, h3⟩⟩
set_option maxRecDepth 8000 in
set_option maxHeartbeats 8000000 in
theorem refCopied_apart6 (v : Value) (rs : List Rec) (w : World) (hv : Rcs w v rs) : Calls Tryz.prog 9 #[v] w (RecsApart6 w rs) := by
  obtain ⟨i0, hi, hz0, hz1, hz2⟩ := info_parts Tryz.info21
  obtain ⟨i1, hj, hy0, hy1, hy2⟩ := info_parts Tryz.info29
  have hlen := hv.1
  have HFit := hide (fun i hi => hv.fit (i := i) hi)
  rcases Nat.eq_zero_or_pos rs.length with n0 | n0
  · obtain ⟨ao, cap, rfl, _, _⟩ := hv.shape
    obtain rfl : rs = [] := List.eq_nil_of_length_eq_zero n0
    have HF : RecsApart6 w [] (.returned (.slice none 0 0)) w := ⟨_, [], rfl, rfl, ⟨World.ownsRow_nil _ _ _ _, fun _ h => (by cases h)⟩, List.Pairwise.nil, Below.refl _ _⟩
    clear hv HFit
    go_enter Tryz.func9, Tryz.ntmps9
    go_wp2
    refine wp_loop_rounds 1 ?_
    rw [rounds_succ]
    go_wp2
    go_ret
    exact HF
  · obtain ⟨b, off, cap, rfl, hl1, hl2, hcells⟩ := hv.place n0
    have HC : Hid (∀ i, i < rs.length → ∀ W, Below w.heap.size w W → RecAt W b (off + i * 8) (rs.getD i Cn.none)) := fun i hi W hb => (hcells i hi).below hb
    have HTake : Hid (∀ k, k < rs.length → rs.take (k + 1) = rs.take k ++ [rs.getD k Cn.none]) := fun k hk => by
      rw [List.take_add_one]; simp [List.getD, hk]
    clear hv hcells
    go_enter Tryz.func9, Tryz.ntmps9
    go_wp2
    go_loopw [3, 4, 5, 6] (fun mv iv _ _ wr => ∃ (k : Nat) (ps : List (Rec × Value)), iv = .int .i64 k ∧ k ≤ rs.length ∧ ps.map (·.1) = rs.take k ∧ ps.length = k ∧ Rown wr w.heap.size mv ps ∧ Apart6 ps ∧ Below w.heap.size w wr) (fun _ iv _ _ _ => rs.length - (intOf iv).toNat)
    case atStart => exact ⟨0, [], rfl, by omega, by simp, rfl, ⟨World.ownsRow_nil _ _ _ _, fun _ h => (by cases h)⟩, List.Pairwise.nil, Below.refl _ _⟩
    case round =>
      obtain ⟨k, ps, rfl, hk, hps, hpl, hown, hap, hbel⟩ := hrel
      have HAP := hide hap
      have HLT : Hid (∀ p ∈ ps, ∀ g, p.2.ownBlock = some g → g < wr.heap.size) := fun p hp g hg => ((hown.2 p hp).2.2.lt g hg).2
      clear hap
      by_cases hlt : k < rs.length
      · have hrec := (unhide HC) k hlt wr hbel
        have hfit := (unhide HFit) k hlt
        have htk := (unhide HTake) k hlt
        rw [← hps] at htk
        have hto := hfit.len
        have HTK := hide htk
        clear HFit HTake htk hps hfit
        generalize rs.getD k Cn.none = r at *
        obtain ⟨x0, x1, x2, x3, ⟨vt, x4, hsk⟩, x5, x6, x7⟩ := hrec
        have hB := hbel.size
        have hskf := hsk.1
        rcases hsk.2.src with ⟨hnil, rfl⟩ | ⟨ad, tcap, rfl, hsrc⟩
        · obtain hto0 : r.to = [] := by simpa using hnil
          have hX : ∀ o, (wr.alloc o).cell? ⟨b, off + k * 8 + 4, none⟩ = some (.slice none 0 0) := fun o => by
            rw [Below.cell ((Below.refl wr.heap.size wr).alloc (Nat.le_refl _) o) (lt_of_cell? x4)]; exact x4
          have hfl : ∀ W a m, (store a (.float .f64 r.wt) m).run Tryz.prog W = stored Tryz.prog W a (.float .f64 r.wt) m := fun W a m => run_store Tryz.prog W a _ m rfl
          have hM : ∀ o o2, ((wr.alloc o).alloc o2).ownsRow w.heap.size 29 8 u3 ps.length (rcells ps) := fun o o2 => (hown.1.alloc o).alloc o2
          have HM := hide hM
          have HMORE : Hid (∀ o v10 w10, World.ownsRow w10 w.heap.size 29 8 v10 (ps.length + 1) (rcells ps ++ rcell (r, .slice none 0 0)) → ((wr.alloc (.cells #[.int .i64 r.kind, .int .i64 r.lo, .int .i64 r.hi, .int .i64 r.n, .slice none 0 0, .string r.name, .string r.other, .float .f64 r.wt] 29)).alloc o).grownBy w10 u3.ownBlock → Rown w10 w.heap.size v10 (ps ++ [(r, .slice none 0 0)]) ∧ Below w.heap.size w w10) := fun o v10 w10 a b => copied_nil hown hbel hto0 a b
          have HNEW := hide (rec_new2 (wr.alloc (.cells #[.int .i64 r.kind, .int .i64 r.lo, .int .i64 r.hi, .int .i64 r.n, .slice none 0 0, .string r.name, .string r.other, .float .f64 r.wt] 29)) (wr.heap.size + 1) (by simp) r (.slice none 0 0))
          have HONE := hide (rec_one r (vt := .slice none 0 0) rfl)
          clear hM hown hbel hsk
          go_wp2_with (first | (at_builtin; refine wpList_append_own_none rfl (.tmp 17) (.tmp 22) 26 rfl w.heap.size 21 i0 1 Tryz.underlying26 hi _ _ _ rfl (World.ownsRow_nil _ _ _ _) rfl ?_) | (at_builtin; refine wpList_append_own _ rfl (.tmp 25) (.tmp 27) 22 rfl w.heap.size 29 i1 (.agg #[.int .i64 0, .int .i64 0, .int .i64 0, .int .i64 0, .slice none 0 0, .string ⟨#[]⟩, .string ⟨#[]⟩, .float .f64 0]) 8 96 Tryz.underlying22 hj hy0 hy1 hy2 rfl (by decide) _ _ _ rfl ((unhide HM) _ _) ⟨wr.heap.size + 1, 0, none⟩ 1 1 (rcell (r, .slice none 0 0)) rfl rfl (unhide HNEW) (unhide HONE) (by unfold maxLen; omega) (by omega) (by simp; omega) ?_))
          intro v10 w10 hrow10 hg10 _
          obtain ⟨hR, hBW⟩ := (unhide HMORE) _ v10 w10 (by rw [hpl]; exact hrow10) hg10
          have HR := hide hR
          clear HMORE HM HNEW HONE hrow10 hg10 hR
          go_wp2
          go_roundw
          case rel => exact ⟨k + 1, ps ++ [(r, .slice none 0 0)], by go_num, by omega, by rw [unhide HTK]; simp, by simp [hpl], unhide HR, apart_nil6 (unhide HAP) r, hBW⟩
          case measure => simp [intOf]; omega
        · have hml : (r.to.map (Value.int .i32)).length = r.to.length := List.length_map _
          rw [hml] at x4
          have hX : ∀ o, (wr.alloc o).cell? ⟨b, off + k * 8 + 4, none⟩ = some (.slice (some ad) r.to.length tcap) := fun o => by
            rw [Below.cell ((Below.refl wr.heap.size wr).alloc (Nat.le_refl _) o) (lt_of_cell? x4)]; exact x4
          have hS : ∀ o, ∀ j u, (r.to.map (Value.int .i32))[j]? = some u → (wr.alloc o).cell? (ad.add j) = some u := fun o j u hu => by
            have h := hsrc j u hu
            rw [Below.cell ((Below.refl wr.heap.size wr).alloc (Nat.le_refl _) o) (World.block_lt_of_cell? _ _ h)]; exact h
          have HS := hide hS
          have hfl : ∀ W a m, (store a (.float .f64 r.wt) m).run Tryz.prog W = stored Tryz.prog W a (.float .f64 r.wt) m := fun W a m => run_store Tryz.prog W a _ m rfl
          clear hS hsrc hsk
          go_wp2_with (at_builtin; refine wpList_append_own _ rfl (.tmp 17) (.tmp 22) 26 rfl wr.heap.size 21 i0 (.int .i32 0) 1 4 Tryz.underlying26 hi hz0 hz1 hz2 rfl (by decide) _ _ _ rfl (World.ownsRow_nil _ _ _ _) ad r.to.length tcap (r.to.map (Value.int .i32)) rfl (by simp) ((unhide HS) _) (fun u hu => by obtain ⟨z, _, rfl⟩ := List.mem_map.1 hu; rfl) (by unfold maxLen; omega) (by omega) (by simp) ?_)
          intro v9 w9 hrow90 hg9 _
          have hrow9 := row_low6 hrow90 hB
          have HFAR : Hid (∀ g, v9.ownBlock = some g → wr.heap.size ≤ g) := fun g h => (hrow90.lt g h).1
          clear hrow90
          have hok9 : Ok .i32 21 w9 w.heap.size v9 r.to := Ok.of hskf (by omega) hrow9 (by simp) (by simp)
          have hbox : w9.heap[wr.heap.size]? = some (.cells (rarr r (.slice (some ad) r.to.length tcap)) 29 (0, 0)) := by
            rw [hg9.block _ (by simp) (by simp [Value.ownBlock])]
            show (wr.heap.push _)[wr.heap.size]? = _
            simp [rarr]
          have s9 : wr.heap.size + 1 ≤ w9.heap.size := by simpa using hg9.size
          obtain ⟨ao9, cap9, hv9, _, _⟩ := hok9.sk.shape
          subst hv9
          have hM : ∀ o, ((w9.setCell ⟨wr.heap.size, 4, none⟩ (.slice ao9 r.to.length cap9)).alloc o).ownsRow w.heap.size 29 8 u3 ps.length (rcells ps) := fun o => by
            refine World.ownsRow.alloc (own_keep hown.1 fun g h => ?_) o
            have hlt9 := (hown.1.lt g h).2
            rw [set_other _ (by omega), hg9.block g (by simp; omega) (by simp [Value.ownBlock])]
            exact ((Below.refl wr.heap.size wr).alloc (Nat.le_refl _) _).block g hlt9
          have HM := hide hM
          have HMORE : Hid (∀ o v10 w10, World.ownsRow w10 w.heap.size 29 8 v10 (ps.length + 1) (rcells ps ++ rcell (r, .slice ao9 r.to.length cap9)) → ((w9.setCell ⟨wr.heap.size, 4, none⟩ (.slice ao9 r.to.length cap9)).alloc o).grownBy w10 u3.ownBlock → Rown w10 w.heap.size v10 (ps ++ [(r, .slice ao9 r.to.length cap9)]) ∧ Below w.heap.size w w10) := fun o v10 w10 a b => copied_more hown hbel hok9 hg9 a b
          have y0 := cell_of (j := 0) hbox (by show _ < 8; omega)
          have y1 := cell_of (j := 1) hbox (by show _ < 8; omega)
          have y2 := cell_of (j := 2) hbox (by show _ < 8; omega)
          have y3 := cell_of (j := 3) hbox (by show _ < 8; omega)
          have y4 := cell_of (j := 4) hbox (by show _ < 8; omega)
          have y5 := cell_of (j := 5) hbox (by show _ < 8; omega)
          have y6 := cell_of (j := 6) hbox (by show _ < 8; omega)
          have y7 := cell_of (j := 7) hbox (by show _ < 8; omega)
          have yf := frozen_of (j := 4) hbox
          have z0 : w9.cell? ⟨wr.heap.size, 0, none⟩ = some (.int .i64 r.kind) := y0
          have z1 : w9.cell? ⟨wr.heap.size, 1, none⟩ = some (.int .i64 r.lo) := y1
          have z2 : w9.cell? ⟨wr.heap.size, 2, none⟩ = some (.int .i64 r.hi) := y2
          have z3 : w9.cell? ⟨wr.heap.size, 3, none⟩ = some (.int .i64 r.n) := y3
          have z4 : w9.cell? ⟨wr.heap.size, 4, none⟩ = some (.slice (some ad) r.to.length tcap) := y4
          have z5 : w9.cell? ⟨wr.heap.size, 5, none⟩ = some (.string r.name) := y5
          have z6 : w9.cell? ⟨wr.heap.size, 6, none⟩ = some (.string r.other) := y6
          have z7 : w9.cell? ⟨wr.heap.size, 7, none⟩ = some (.float .f64 r.wt) := y7
          have hnew := rec_new2 (w9.setCell ⟨wr.heap.size, 4, none⟩ (.slice ao9 r.to.length cap9)) w9.heap.size (set_size _ _ _ _) r (.slice ao9 r.to.length cap9)
          have hone := rec_one r (vt := .slice ao9 r.to.length cap9) rfl
          have HNEW := hide hnew
          have HONE := hide hone
          clear hM hnew hone hrow9 hg9 hok9 hbox y0 y1 y2 y3 y4 y5 y6 y7 hown hbel
          go_wp2_with (at_builtin; refine wpList_append_own _ rfl (.tmp 25) (.tmp 27) 22 rfl w.heap.size 29 i1 (.agg #[.int .i64 0, .int .i64 0, .int .i64 0, .int .i64 0, .slice none 0 0, .string ⟨#[]⟩, .string ⟨#[]⟩, .float .f64 0]) 8 96 Tryz.underlying22 hj hy0 hy1 hy2 rfl (by decide) _ _ _ rfl ((unhide HM) _) ⟨w9.heap.size, 0, none⟩ 1 1 (rcell (r, .slice ao9 r.to.length cap9)) rfl rfl (unhide HNEW) (unhide HONE) (by unfold maxLen; omega) (by omega) (by simp; omega) ?_)
          intro v10 w10 hrow10 hg10 _
          obtain ⟨hR, hBW⟩ := (unhide HMORE) _ v10 w10 (by rw [hpl]; exact hrow10) hg10
          have HR := hide hR
          clear HMORE HM HNEW HONE hrow10 hg10 hR
          go_wp2
          go_roundw
          case rel => exact ⟨k + 1, ps ++ [(r, .slice ao9 r.to.length cap9)], by go_num, by omega, by rw [unhide HTK]; simp, by simp [hpl], unhide HR, apart_more6 (unhide HAP) (unhide HLT) r (unhide HFAR), hBW⟩
          case measure => simp [intOf]; omega
      · obtain rfl : k = rs.length := by omega
        rw [List.take_length] at hps
        have HF : RecsApart6 w rs (.returned u3) wr := ⟨u3, ps, rfl, hps, hown, unhide HAP, hbel⟩
        clear hps hown HC HFit HTake
        go_wp2
        go_ret
        exact HF
end Go.Proofs.YtceflkeaenepcaaGreatDoor
namespace Go.Proofs.YtceflkeaenepcaaGreatDoor
open Go.RowKit
abbrev pd6 : Rec × Value := (Cn.none, .slice none 0 0)
def Mk6 (w : World) (B : Nat) (p : Rec × Value) : Prop := ∃ g cap, p.2 = .slice (some ⟨g, 0, none⟩) p.1.to.length cap ∧ Ok .i32 21 w B (.slice (some ⟨g, 0, none⟩) (p.1.to.length + 2) cap) (p.1.to ++ [-7, -8])
structure Fs6 (w : World) (B : Nat) (v : Value) (ps : List (Rec × Value)) (k : Nat) : Prop where
  row : w.ownsRow B 29 8 v ps.length (rcells ps)
  fst : ∀ i, i < k → i < ps.length → Mk6 w B (ps.getD i pd6)
  snd : ∀ i, k ≤ i → i < ps.length → Ok .i32 21 w B (ps.getD i pd6).2 (ps.getD i pd6).1.to
  ap : ∀ i j, i ≠ j → i < ps.length → j < ps.length → ∀ g, (ps.getD i pd6).2.ownBlock = some g → (ps.getD j pd6).2.ownBlock ≠ some g
theorem apart_at6 {ps : List (Rec × Value)} (h : Apart6 ps) : ∀ i j, i ≠ j → i < ps.length → j < ps.length → ∀ g, (ps.getD i pd6).2.ownBlock = some g → (ps.getD j pd6).2.ownBlock ≠ some g := by
  intro i j hij hi hj g hg e
  have h' := List.pairwise_iff_getElem.1 h
  simp only [List.getD, List.getElem?_eq_getElem hi, List.getElem?_eq_getElem hj, Option.getD_some] at hg e
  rcases Nat.lt_or_gt_of_ne hij with hl | hl
  · exact h' i j hi hj hl g hg e
  · exact h' j i hj hi hl g e hg
theorem rcells_set6 : ∀ (ps : List (Rec × Value)) (k : Nat) (v : Value), k < ps.length → (rcells ps).set (k * 8 + 4) v = rcells (ps.set k ((ps.getD k pd6).1, v))
  | [], _, _, h => by simp at h
  | p :: ps, 0, v, _ => rfl
  | p :: ps, k + 1, v, h => by
    have ih := rcells_set6 ps k v (by simpa using h)
    have e : rcells (p :: ps) = rcell p ++ rcells ps := by unfold rcells; rw [List.flatMap_cons]
    have hl : (rcell p).length = 8 := rfl
    rw [e, show (k + 1) * 8 + 4 = 8 + (k * 8 + 4) by omega, List.set_append_right _ _ (by rw [hl]; omega), hl, show 8 + (k * 8 + 4) - 8 = k * 8 + 4 by omega, ih]
    show _ = rcells (p :: ps.set k _)
    unfold rcells
    rw [List.flatMap_cons]
    rfl
theorem set_get6 (ps : List (Rec × Value)) (k i : Nat) (x : Rec × Value) (hk : k < ps.length) : (ps.set k x).getD i pd6 = if i = k then x else ps.getD i pd6 := by
  simp only [List.getD, List.getElem?_set]
  by_cases e : k = i
  · subst e; simp [hk]
  · simp [e, Ne.symm e]
theorem map_set6 {ps : List (Rec × Value)} {k : Nat} (v : Value) (hk : k < ps.length) : (ps.set k ((ps.getD k pd6).1, v)).map (·.1) = ps.map (·.1) := by
  rw [List.map_set]
  simp only [List.getD, List.getElem?_eq_getElem hk, Option.getD_some]
  have : ps[k].1 = (ps.map (·.1))[k]'(by simpa using hk) := by simp
  rw [this, List.set_getElem_self]
theorem Mk6.keep {w w' : World} {B : Nat} {p : Rec × Value} (h : Mk6 w B p) (hk : ∀ g, p.2.ownBlock = some g → w'.heap[g]? = w.heap[g]?) : Mk6 w' B p := by
  obtain ⟨g, cap, e, ok⟩ := h
  refine ⟨g, cap, e, ok.keep fun g' hg => hk g' ?_⟩
  rw [e]; exact hg
theorem fs_step6 {wr w2 : World} {o : Obj} {B gm n cap k g' cap' : Nat} {ps : List (Rec × Value)} (h : Fs6 wr B (.slice (some ⟨gm, 0, none⟩) n cap) ps k) (hk : k < ps.length)
    (hok : Ok .i32 21 w2 B (.slice (some ⟨g', 0, none⟩) ((ps.getD k pd6).1.to.length + 2) cap') ((ps.getD k pd6).1.to ++ [-7, -8])) (hgr : (wr.alloc o).grownBy w2 (ps.getD k pd6).2.ownBlock)
    (hat : some g' = (ps.getD k pd6).2.ownBlock ∨ some g' = some (wr.alloc o).heap.size) :
    Fs6 (w2.setCell ⟨gm, k * 8 + 4, none⟩ (.slice (some ⟨g', 0, none⟩) (ps.getD k pd6).1.to.length cap')) B (.slice (some ⟨gm, 0, none⟩) n cap) (ps.set k ((ps.getD k pd6).1, .slice (some ⟨g', 0, none⟩) (ps.getD k pd6).1.to.length cap')) (k + 1) := by
  have hsz : (wr.alloc o).heap.size = wr.heap.size + 1 := by simp
  have hkk := h.snd k (Nat.le_refl _) hk
  have hrow := h.row
  have hgm : gm < wr.heap.size := (hrow.lt gm rfl).2
  have hgk : (ps.getD k pd6).2.ownBlock ≠ some gm := fun e => own_apart hkk.2.2 hrow (by decide) e rfl
  have hold : ∀ g, g < wr.heap.size → (ps.getD k pd6).2.ownBlock ≠ some g → w2.heap[g]? = wr.heap[g]? := fun g h1 h2 => by
    rw [hgr.block g (by omega) (fun e => h2 e.symm)]
    exact ((Below.refl wr.heap.size wr).alloc (Nat.le_refl _) o).block g h1
  have hgg : g' ≠ gm := by
    rcases hat with e | e
    · exact fun e2 => hgk (by rw [← e, e2])
    · have : g' = wr.heap.size + 1 := by simpa [hsz] using e
      omega
  have hset : ∀ g, g ≠ gm → ∀ x, (w2.setCell ⟨gm, k * 8 + 4, none⟩ x).heap[g]? = w2.heap[g]? := fun g hg x => Below.heap_setCell _ _ _ _ hg
  -- other lists
  have hoth : ∀ i, i ≠ k → i < ps.length → ∀ g, (ps.getD i pd6).2.ownBlock = some g → g < wr.heap.size → g ≠ gm → (w2.setCell ⟨gm, k * 8 + 4, none⟩ (.slice (some ⟨g', 0, none⟩) (ps.getD k pd6).1.to.length cap')).heap[g]? = wr.heap[g]? := fun i hik hi g hg hl hne => by
    rw [hset g hne]
    exact hold g hl (fun e => h.ap i k hik hi hk g hg e)
  obtain ⟨nv, hnv⟩ : ∃ nv, nv = Value.slice (some ⟨g', 0, none⟩) (ps.getD k pd6).1.to.length cap' := ⟨_, rfl⟩
  have hnb : nv.ownBlock = some g' := by rw [hnv]; rfl
  rw [← hnv] at hoth ⊢
  refine ⟨?_, ?_, ?_, ?_⟩
  · rcases hrow.2 with ⟨e, _⟩ | ⟨g, c, cur, e, h1, h2, h3, h4, h5, h6⟩
    · cases e
    · simp only [Value.slice.injEq, Option.some.injEq, Addr.mk.injEq] at e
      obtain ⟨⟨rfl, _⟩, hn, rfl⟩ := e
      refine ⟨by rw [rcells_length], .inr ⟨gm, cap, cur.setIfInBounds (k * 8 + 4) nv, by rw [List.length_set, hn], h1, set_block (by rw [hold gm hgm (fun e => hgk e)]; exact h2) _, by rw [List.length_set]; exact h3, h4, by simpa using h5, ?_⟩⟩
      rw [List.length_set, ← rcells_set6 ps k nv hk, ← h6]
      have : (cur.setIfInBounds (k * 8 + 4) nv).toList = cur.toList.set (k * 8 + 4) nv := by simp
      rw [this, List.take_set]
  · intro i hi hil
    rw [List.length_set] at hil
    rw [set_get6 _ _ _ _ hk]
    split
    · refine ⟨g', cap', hnv, hok.keep fun g hg => ?_⟩
      have : g = g' := by simpa [Value.ownBlock] using hg.symm
      subst this
      exact hset g hgg _
    · rename_i hik
      have hm := h.fst i (by omega) hil
      refine hm.keep fun g hg => ?_
      obtain ⟨g1, c1, e1, ok1⟩ := hm
      have hgl : g < wr.heap.size := (ok1.row.lt g (by rw [e1] at hg; exact hg)).2
      exact hoth i hik hil g hg hgl (fun e => own_apart ok1.2.2 hrow (by decide) (by rw [e1] at hg; rw [← e]; exact hg) rfl)
  · intro i hi hil
    rw [List.length_set] at hil
    rw [set_get6 _ _ _ _ hk, if_neg (by omega)]
    have hs := h.snd i (by omega) hil
    refine hs.keep fun g hg => ?_
    exact hoth i (by omega) hil g hg (hs.2.2.lt g hg).2 (fun e => own_apart hs.2.2 hrow (by decide) (by rw [← e]; exact hg) rfl)
  · intro i j hij hi hj g hg e
    rw [List.length_set] at hi hj
    rw [set_get6 _ _ _ _ hk] at hg e
    have hlt : ∀ i, i < ps.length → ∀ g, (ps.getD i pd6).2.ownBlock = some g → g < wr.heap.size := fun i hi g hg => by
      by_cases hik : i < k
      · obtain ⟨g1, c1, e1, ok1⟩ := h.fst i hik hi
        exact (ok1.row.lt g (by rw [e1] at hg; exact hg)).2
      · exact ((h.snd i (by omega) hi).2.2.lt g hg).2
    have hnew : ∀ i, i ≠ k → i < ps.length → ∀ g, (ps.getD i pd6).2.ownBlock = some g → g' ≠ g := fun i hik hi g hg e2 => by
      subst e2
      rcases hat with e3 | e3
      · exact h.ap i k hik hi hk g' hg e3.symm
      · have h1 := hlt i hi g' hg
        have : g' = wr.heap.size + 1 := by simpa [hsz] using e3
        omega
    by_cases h1 : i = k
    · rw [if_pos h1] at hg
      rw [if_neg (by omega)] at e
      rw [hnb] at hg
      exact hnew j (by omega) hj g e (by simpa using hg)
    · rw [if_neg h1] at hg
      by_cases h2 : j = k
      · rw [if_pos h2, hnb] at e
        exact hnew i h1 hi g hg (by simpa using e)
      · rw [if_neg h2] at e
        exact h.ap i j hij hi hj g hg e
end Go.Proofs.YtceflkeaenepcaaGreatDoor
