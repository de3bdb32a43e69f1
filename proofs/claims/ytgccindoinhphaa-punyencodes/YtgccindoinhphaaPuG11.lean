/- The document's step of Punycode's state. -/
import Derived.Test.YtgccindoinhphaaPuF11
import Derived.Test.YtgccindoinhphaaRefE
import Derived.Test.YtgccindoinhphaaOwnW
namespace Go.Proofs.Ytgccindoinhphaa
open Go.RowKit

/-- The document's state as it lies in memory. -/
def StR (w : World) (b : Nat) (v : Value) (n i bias : Int) (f : Bool) : Prop := w.heap[b]? = some (.cells #[v, .int .i64 n, .int .i64 i, .int .i64 bias, .bool f] 46 (0, 0))

theorem StR.cells {w : World} {b : Nat} {v : Value} {n i bias : Int} {f : Bool} (h : StR w b v n i bias f) :
    w.cell? ⟨b, 0, none⟩ = some v ∧ w.cell? ⟨b, 1, none⟩ = some (.int .i64 n) ∧ w.cell? ⟨b, 2, none⟩ = some (.int .i64 i) ∧ w.cell? ⟨b, 3, none⟩ = some (.int .i64 bias) ∧ w.cell? ⟨b, 4, none⟩ = some (.bool f) ∧
      w.frozen? ⟨b, 0, none⟩ = false ∧ w.frozen? ⟨b, 1, none⟩ = false ∧ w.frozen? ⟨b, 2, none⟩ = false ∧ w.frozen? ⟨b, 3, none⟩ = false ∧ w.frozen? ⟨b, 4, none⟩ = false := by
  unfold StR at h
  simp [World.cell?, World.frozen?, h]
theorem StR.grown {w w' : World} {b : Nat} {v : Value} {n i bias : Int} {f : Bool} {row : Option Nat} (h : StR w b v n i bias f) (hg : w.grownBy w' row) (hne : row ≠ some b) : StR w' b v n i bias f := by
  unfold StR at h ⊢
  rw [hg.block b (Array.getElem?_eq_some_iff.1 h).1 (fun hh => hne hh.symm)]; exact h
theorem StR.alloc {w : World} {b : Nat} {v : Value} {n i bias : Int} {f : Bool} (h : StR w b v n i bias f) (o : Obj) : StR (w.alloc o) b v n i bias f := by
  unfold StR at h ⊢
  rw [heap_alloc_old _ _ (Array.getElem?_eq_some_iff.1 h).1]; exact h
theorem StR.drew {w : World} {b : Nat} {v : Value} {n i bias : Int} {f : Bool} (h : StR w b v n i bias f) : StR w.drew b v n i bias f := h
theorem StR.other {w : World} {b g j : Nat} {v : Value} {n i bias : Int} {f : Bool} (h : StR w b v n i bias f) (hne : b ≠ g) (u : Value) : StR (w.setCell ⟨g, j, none⟩ u) b v n i bias f := by
  unfold StR at h ⊢
  rw [setc_other hne]; exact h
theorem StR.set0 {w : World} {b : Nat} {v : Value} {n i bias : Int} {f : Bool} (h : StR w b v n i bias f) (u : Value) : StR (w.setCell ⟨b, 0, none⟩ u) b u n i bias f := setc_block (j := 0) h u
theorem StR.set1 {w : World} {b : Nat} {v : Value} {n i bias : Int} {f : Bool} (h : StR w b v n i bias f) (u : Int) : StR (w.setCell ⟨b, 1, none⟩ (.int .i64 u)) b v u i bias f := setc_block (j := 1) h _
theorem StR.set2 {w : World} {b : Nat} {v : Value} {n i bias : Int} {f : Bool} (h : StR w b v n i bias f) (u : Int) : StR (w.setCell ⟨b, 2, none⟩ (.int .i64 u)) b v n u bias f := setc_block (j := 2) h _
theorem StR.set3 {w : World} {b : Nat} {v : Value} {n i bias : Int} {f : Bool} (h : StR w b v n i bias f) (u : Int) : StR (w.setCell ⟨b, 3, none⟩ (.int .i64 u)) b v n i u f := setc_block (j := 3) h _
theorem StR.set4 {w : World} {b : Nat} {v : Value} {n i bias : Int} {f : Bool} (h : StR w b v n i bias f) (u : Bool) : StR (w.setCell ⟨b, 4, none⟩ (.bool u)) b v n i bias u := setc_block (j := 4) h _

def StV (v : Value) (n i bias : Int) (f : Bool) : Value := .agg #[v, .int .i64 n, .int .i64 i, .int .i64 bias, .bool f]

def StepD (w : World) (st : Pu.St) (d : Int) (e : Ending) (w' : World) : Prop :=
  Below w.heap.size w w' ∧
  ((¬ Utf.okc (Pu.stepN st d) ∧ ∃ ao l c n i bias f, e = .returned (.tuple #[StV (.slice ao l c) n i bias f, .bool false])) ∨
   (Utf.okc (Pu.stepN st d) ∧ ∃ v, e = .returned (.tuple #[StV v (Pu.step st d).n (Pu.step st d).i (Pu.step st d).bias false, .bool true]) ∧ Ok .i32 21 w' w.heap.size v (Pu.step st d).xs))

set_option maxHeartbeats 4000000 in
theorem refBegin_any (ao : Option Addr) (n cap : Nat) (w : World) : Calls Try.prog 27 #[.slice ao n cap] w fun e w' => e = .returned (StV (.slice ao n cap) 128 0 72 true) ∧ Below w.heap.size w w' := by
  have hbl : Below w.heap.size w (w.alloc (.cells #[.slice ao n cap, .int .i64 128, .int .i64 0, .int .i64 72, .bool true] 46)) := (Below.refl _ _).alloc (Nat.le_refl _) _
  have hR : StR (w.alloc (.cells #[.slice ao n cap, .int .i64 128, .int .i64 0, .int .i64 72, .bool true] 46)) w.heap.size (.slice ao n cap) 128 0 72 true := heap_alloc_new w _
  obtain ⟨z0, z1, z2, z3, z4, _⟩ := hR.cells
  clear hR
  go_enter Try.func27, Try.ntmps27
  go_wp2
  refine bodyPost_ret (v := StV (.slice ao n cap) 128 0 72 true) (by simp [results, Try.results27, go_sem, z0, z1, z2, z3, z4, StV]) rfl ⟨rfl, hbl⟩

theorem Sk.empty_some (K : IntKind) (w : World) (ad : Addr) (c : Nat) (h : c ≤ 9223372036854775807) : Sk K w (.slice (some ad) 0 c) [] := ⟨Fit.nil K, by simp, .inl ⟨rfl, some ad, c, rfl, h, fun h => by cases h⟩⟩
theorem Sk.one (w : World) (c : Int) (hc : -2147483648 ≤ c ∧ c ≤ 2147483647) : Sk .i32 (w.alloc (.cells #[.int .i32 c] 21)) (.slice (some ⟨w.heap.size, 0, none⟩) 1 1) [c] := by
  refine ⟨fun z hz => by simp at hz; subst hz; exact i32_fit hc, by simp, .inr ⟨w.heap.size, 0, 1, rfl, by simp, by omega, fun i hi => ?_⟩⟩
  simp at hi
  subst hi
  rw [World.cell?_alloc_at (w := w) _ _ w.heap.size 0 rfl]
  rfl

theorem wpList_append_sk {w : World} {ops : Array Oper} {rest : List Oper} {o : Oper} {a : Act} {Q : Exit → Act → World → Prop} (hgd : o.guard = none) (s x : Operand)
    (ho : o.op = .call { callee := .builtin .append, args := #[s, x], argTypes := #[22, 22] }) (B : Nat) (v u : Value) (xs ys : List Int) (hs : a.eval s = v) (hx : a.eval x = u)
    (hv : Ok .i32 21 w B v xs) (hu : Sk .i32 w u ys) (hl : xs.length + ys.length ≤ 1000000000) (hB : B ≤ w.heap.size)
    (h : ∀ v' w', Ok .i32 21 w' B v' (xs ++ ys) → w.grownBy w' v.ownBlock → wpList Try.prog ops Q rest (a.put o.dst v') w') : wpList Try.prog ops Q (o :: rest) a w := by
  obtain ⟨i0, hi, hz0, hz1, hz2⟩ := infoR_parts
  rcases Sk.src hu with ⟨rfl, rfl⟩ | ⟨ad, cap, rfl, hcells⟩
  · refine wpList_append_own_none hgd s x 22 ho B 21 i0 1 Try.underlying22 hi v _ _ hs hv.row hx ?_
    exact h v w (by rw [List.append_nil]; exact hv) (grown_refl w _)
  · refine wpList_append_own w hgd s x 22 ho B 21 i0 (.int .i32 0) 1 4 Try.underlying22 hi hz0 hz1 hz2 rfl (by decide) v _ _ hs hv.row ad ys.length cap (ys.map (Value.int .i32)) hx (by simp) hcells (ints_one .i32 ys) (by unfold maxLen; omega) (by omega) hB ?_
    intro v' w' h1 h2 _
    exact h v' w' (Ok.of (hv.1.app hu.1) (by simp; omega) h1 (by simp) (by simp)) h2

theorem put5 {w W : World} {b0 b1 : Nat} {v0 : Value} {n0 i0 s0 : Int} {f0 : Bool} (h : StR W b1 v0 n0 i0 s0 f0) (hb : Below b0 w W) (hle : b0 ≤ b1) (v : Value) (n i s : Int) (f : Bool) :
    ∃ W', ((((W.setCell ⟨b1, 0, none⟩ v).setCell ⟨b1, 1, none⟩ (.int .i64 n)).setCell ⟨b1, 2, none⟩ (.int .i64 i)).setCell ⟨b1, 3, none⟩ (.int .i64 s)).setCell ⟨b1, 4, none⟩ (.bool f) = W' ∧ StR W' b1 v n i s f ∧ Below b0 w W' ∧ W'.heap.size = W.heap.size ∧ W.grownBy W' (some b1) := by
  refine ⟨_, rfl, ?_, ?_, ?_, ?_⟩
  · have h0 := h.set0 v
    generalize W.setCell ⟨b1, 0, none⟩ v = W0 at *
    have h1 := h0.set1 n
    generalize W0.setCell ⟨b1, 1, none⟩ (.int .i64 n) = W1 at *
    have h2 := h1.set2 i
    generalize W1.setCell ⟨b1, 2, none⟩ (.int .i64 i) = W2 at *
    have h3 := h2.set3 s
    generalize W2.setCell ⟨b1, 3, none⟩ (.int .i64 s) = W3 at *
    exact h3.set4 f
  · exact ((((hb.setCell hle _).setCell hle _).setCell hle _).setCell hle _).setCell hle _
  · rw [setc_size, setc_size, setc_size, setc_size, setc_size]
  · exact grown_setc (grown_setc (grown_setc (grown_setc (grown_setc (grown_refl W _) _) _) _) _) _

theorem box_two (w : World) (v : Value) (n i bias : Int) (f : Bool) : ∃ W b0 b1, (w.alloc (.cells #[v, .int .i64 n, .int .i64 i, .int .i64 bias, .bool f] 46)).alloc (.cells #[.slice none 0 0, .int .i64 0, .int .i64 0, .int .i64 0, .bool false] 46) = W ∧ w.heap.size = b0 ∧ b0 + 1 = b1 ∧ StR W b0 v n i bias f ∧ StR W b1 (.slice none 0 0) 0 0 0 false ∧ Below b0 w W ∧ W.heap.size = b1 + 1 := by
  refine ⟨_, _, _, rfl, rfl, rfl, ?_, ?_, ((Below.refl _ _).alloc (Nat.le_refl _) _).alloc (by rw [alloc_size]; omega) _, by rw [alloc_size, alloc_size]⟩
  · exact StR.alloc (heap_alloc_new w _) _
  · have := heap_alloc_new (w.alloc (.cells #[v, .int .i64 n, .int .i64 i, .int .i64 bias, .bool f] 46)) (.cells #[.slice none 0 0, .int .i64 0, .int .i64 0, .int .i64 0, .bool false] 46)
    rw [alloc_size] at this
    exact this

set_option maxRecDepth 20000 in
set_option maxHeartbeats 8000000 in
theorem refStep_row (v : Value) (st : Pu.St) (d : Int) (w : World) (hv : Sk .i32 w v st.xs) (hl : st.xs.length ≤ 1000000) (hpos : 0 < st.xs.length) (hn : 0 ≤ st.n ∧ st.n ≤ 1114111) (hi : 0 ≤ st.i ∧ st.i ≤ 10000000) (hd : 0 ≤ d ∧ d ≤ 2147483647) :
    Calls Try.prog 30 #[StV v st.n st.i st.bias st.first, .int .i64 d] w (StepD w st d) := by
  have hN : Pu.stepN st d = st.n + (st.i + d) / (st.xs.length + 1) := rfl
  have hP : Pu.stepP st d = (st.i + d) % (st.xs.length + 1) := rfl
  have hq0 : 0 ≤ (st.i + d) / ((st.xs.length : Int) + 1) := Int.ediv_nonneg (by omega) (by omega)
  have hq1 : (st.i + d) / ((st.xs.length : Int) + 1) ≤ st.i + d := Int.ediv_le_self _ (by omega)
  have hr0 : 0 ≤ (st.i + d) % ((st.xs.length : Int) + 1) := Int.emod_nonneg _ (by omega)
  have hr1 : (st.i + d) % ((st.xs.length : Int) + 1) < (st.xs.length : Int) + 1 := Int.emod_lt_of_pos _ (by omega)
  have hn0 : 0 ≤ Pu.stepN st d ∧ Pu.stepN st d ≤ 9000000000 := by rw [hN]; omega
  have hp0 : 0 ≤ Pu.stepP st d ∧ Pu.stepP st d ≤ st.xs.length := by rw [hP]; omega
  have HV0 := hide hv
  obtain ⟨b, off, cap, hvv, hc1, hc2, _⟩ := hv.place hpos
  subst hvv
  have hcap0 : ¬ cap = 0 := by omega
  have HN := hide hN.symm
  have HP := hide hP.symm
  obtain ⟨W, b0, b1, hW, hb0, hb1, hR0, hR1, hbel, hsz⟩ := box_two w (.slice (some ⟨b, off, none⟩) st.xs.length cap) st.n st.i st.bias st.first
  obtain ⟨c0, c1, c2, c3, c4, f0, f1, f2, f3, f4⟩ := hR0.cells
  have HB0 := hide hb0
  have HB1 := hide hb1
  unfold StV
  clear hN hP hv
  go_enter Try.func30, Try.ntmps30
  go_wp2
  go_region
  rw [unhide HN]
  have hR2 : StR (W.setCell ⟨b0, 1, none⟩ (.int .i64 (Pu.stepN st d))).drew b0 (.slice (some ⟨b, off, none⟩) st.xs.length cap) (Pu.stepN st d) st.i st.bias st.first := (hR0.set1 _).drew
  have hR3 : StR (W.setCell ⟨b0, 1, none⟩ (.int .i64 (Pu.stepN st d))).drew b1 (.slice none 0 0) 0 0 0 false := (hR1.other (by omega) _).drew
  have hbel1 : Below b0 w (W.setCell ⟨b0, 1, none⟩ (.int .i64 (Pu.stepN st d))).drew := (hbel.setCell (Nat.le_refl _) _).drew
  have hsz1 : (W.setCell ⟨b0, 1, none⟩ (.int .i64 (Pu.stepN st d))).drew.heap.size = b1 + 1 := by rw [drew_size, setc_size]; exact hsz
  generalize (W.setCell ⟨b0, 1, none⟩ (.int .i64 (Pu.stepN st d))).drew = W1 at *
  clear c0 c1 c2 c3 c4 f0 f1 f2 f3 f4 hR0 hR1 hbel hsz hW HN
  obtain ⟨c0, c1, c2, c3, c4, f0, f1, f2, f3, f4⟩ := hR2.cells
  obtain ⟨d0, d1, d2, d3, d4, g0, g1, g2, g3, g4⟩ := hR3.cells
  have hle : b0 ≤ b1 := by omega
  by_cases hbig : 1114111 < Pu.stepN st d
  · have hno : ¬ Utf.okc (Pu.stepN st d) := by unfold Utf.okc; omega
    obtain ⟨W2, hW2, hR4, hbel2, _⟩ := put5 hR3 hbel1 hle (.slice (some ⟨b, off, none⟩) st.xs.length cap) (Pu.stepN st d) st.i st.bias st.first
    have HF : Hid (StepD w st d (.returned (.tuple #[StV (.slice (some ⟨b, off, none⟩) st.xs.length cap) (Pu.stepN st d) st.i st.bias st.first, .bool false])) W2) := ⟨by rw [unhide HB0]; exact hbel2, .inl ⟨hno, _, _, _, _, _, _, _, rfl⟩⟩
    clear hno hbel1 hbel2 hR2 hR3 HV0 HP
    generalize Pu.stepN st d = nn at *
    go_wp2
    obtain ⟨z0, z1, z2, z3, z4, _⟩ := hR4.cells
    refine bodyPost_ret (v := .tuple #[StV (.slice (some ⟨b, off, none⟩) st.xs.length cap) nn st.i st.bias st.first, .bool false]) (by simp [results, Try.results30, go_sem, z0, z1, z2, z3, z4, StV]) rfl (unhide HF)
  · have HV := fun W => hide (refValid_any (Pu.stepN st d) W (by omega))
    by_cases hok : Utf.okc (Pu.stepN st d)
    · rw [decide_eq_true hok] at HV
      obtain ⟨p, hp⟩ : ∃ p : Nat, Pu.stepP st d = p := ⟨(Pu.stepP st d).toNat, by omega⟩
      have HPE : Hid ((st.i + d) % ((st.xs.length : Int) + 1) = (p : Int)) := (unhide HP).trans hp
      have hpl : p ≤ st.xs.length := by omega
      have HS1 : Hid (∀ W', Below b0 w W' → Sk .i32 W' (.slice (some ⟨b, off, none⟩) p cap) (st.xs.take p)) := fun W' hb => ((unhide HV0).below (by rw [unhide HB0]; exact hb)).head (by omega) (by omega)
      by_cases hcp : cap = p
      · have hdn : st.xs.drop p = [] := List.drop_eq_nil_of_le (by omega)
        have HS3 : Hid (∀ W', Below b0 w W' → Sk .i32 W' (.slice (some ⟨b, off, none⟩) 0 0) (st.xs.drop p)) := fun W' hb => by rw [hdn]; exact Sk.empty_some _ _ _ _ (by omega)
        have HS4 : Hid (∀ W', Below b0 w W' → Sk .i32 W' (.slice (some ⟨b, off, none⟩) (st.xs.length - cap) 0) (st.xs.drop p)) := fun W' hb => by rw [hdn, show st.xs.length - cap = 0 by omega]; exact Sk.empty_some _ _ _ _ (by omega)
        clear hdn
        subst hcp
        have hpl2 : st.xs.length = cap := by omega
        have HPL := hide hpl2
        clear hpl2
        have hbelB := hide hbel1
        have HADP := fun W => hide (refAdapt_any d ((st.xs.length : Int) + 1) st.first W (by omega) (by omega))
        have hnil : Ok .i32 21 W1 (b1 + 1) (.slice none 0 0) [] := Ok.nil _ _ _ _
        have HFIN : Hid (∀ v3 W9, Ok .i32 21 W9 (b1 + 1) v3 (([] ++ st.xs.take cap) ++ [Pu.stepN st d] ++ st.xs.drop cap) → Below b0 w W9 → StepD w st d (.returned (.tuple #[StV v3 (Pu.stepN st d) ((cap : Int) + 1) (Pu.adapt d ((st.xs.length : Int) + 1) st.first) false, .bool true])) W9) := by
          intro v3 W9 h1 h2
          refine ⟨by rw [unhide HB0]; exact h2, .inr ⟨hok, v3, ?_, ?_⟩⟩
          · show _ = Ending.returned (.tuple #[StV v3 (Pu.stepN st d) (Pu.stepP st d + 1) (Pu.adapt d ((st.xs.length : Int) + 1) st.first) false, .bool true])
            rw [hp]
          · have he : (Pu.step st d).xs = ([] ++ st.xs.take cap) ++ [Pu.stepN st d] ++ st.xs.drop cap := by
              show Pu.ins st.xs (Pu.stepP st d).toNat (Pu.stepN st d) = _
              rw [hp]; simp [Pu.ins]
            rw [he, unhide HB0]
            exact h1.lower (by omega)
        have hlt : (st.xs.take cap).length ≤ 1000000 := by rw [List.length_take]; omega
        have hld : (st.xs.drop cap).length ≤ 1000000 := by rw [List.length_drop]; omega
        clear hok hbel1 HV0 HP hp0
        generalize Pu.adapt d ((st.xs.length : Int) + 1) st.first = ad at *
        generalize Pu.stepN st d = nn at *
        clear hp
        go_wp2_with fail
        refine (unhide (HV _)).mono ?_
        rintro e wq ⟨rfl, rfl⟩
        clear HV
        rw [unhide HPE]
        clear HPE hq0 hq1 hr0 hr1
        go_wp2_with (at_builtin; refine wpList_append_sk rfl (.tmp 38) (.tmp 42) rfl (b1 + 1) _ _ _ _ rfl rfl hnil (unhide HS1 _ (unhide hbelB)) (by rw [List.length_nil]; omega) (by omega) ?_)
        intro v1 w2 hok1 hgr1
        have hR5 := hR2.grown hgr1 (by simp [Value.ownBlock])
        have hR6 := hR3.grown hgr1 (by simp [Value.ownBlock])
        have hs2 := hgr1.size
        have hb2 := (unhide hbelB).grown hgr1 (by omega) (fun k hk => by simp [Value.ownBlock] at hk)
        clear hgr1 c0 c1 c2 c3 c4 f0 f1 f2 f3 f4 d0 d1 d2 d3 d4 g0 g1 g2 g3 g4 hR2 hR3 hnil hbelB
        obtain ⟨c0, c1, c2, c3, c4, f0, f1, f2, f3, f4⟩ := hR5.cells
        have hone := Sk.one w2 nn (by omega)
        have hok1a := ok_alloc hok1 (.cells #[.int .i32 nn] 21)
        have hs2a := alloc_size w2 (.cells #[.int .i32 nn] 21)
        have HS2A := hide hs2a
        have HOK := hide hok1a
        have HON := hide hone
        have HR5 := hide hR5
        have HR6 := hide hR6
        have HB2 := hide hb2
        have HLT1 : Hid (([] ++ st.xs.take cap).length + [nn].length ≤ 1000000000) := by show _ ≤ _; simp; omega
        clear hs2a hok1a hone hR5 hR6 hb2 hok1
        go_wp2_with (at_builtin; refine wpList_append_sk rfl (.tmp 44) (.tmp 48) rfl (b1 + 1) _ _ _ _ rfl rfl (unhide HOK) (unhide HON) (unhide HLT1) (by have := unhide HS2A; omega) ?_)
        intro v2 w3 hok2 hgr2
        have hvb : ∀ g, v1.ownBlock = some g → b1 + 1 ≤ g := fun g hh => ((unhide HOK).row.lt g hh).1
        have hR7 := ((unhide HR5).alloc (.cells #[.int .i32 nn] 21)).grown hgr2 (fun hh => by have := hvb _ hh; omega)
        have hR8 := ((unhide HR6).alloc (.cells #[.int .i32 nn] 21)).grown hgr2 (fun hh => by have := hvb _ hh; omega)
        have hs3 := hgr2.size
        have hs3a := unhide HS2A
        have hb3 := ((unhide HB2).alloc (by omega) (.cells #[.int .i32 nn] 21)).grown hgr2 (by omega) (fun g hh => by have := hvb g hh; omega)
        have hb3s : b1 + 1 ≤ w3.heap.size := by omega
        clear hgr2 c0 c1 c2 c3 c4 f0 f1 f2 f3 f4 HR5 HR6 HB2 HOK HON HS2A hvb hs3 hs3a hs2
        obtain ⟨c0, c1, c2, c3, c4, f0, f1, f2, f3, f4⟩ := hR7.cells
        have HOK2 := hide hok2
        have HR7 := hide hR7
        have HR8 := hide hR8
        have HB3 := hide hb3
        have HLT2 : Hid (([] ++ st.xs.take cap ++ [nn]).length + (st.xs.drop cap).length ≤ 1000000000) := by show _ ≤ _; simp; omega
        clear hok2 hR7 hR8 hb3
        go_wp2_with (at_builtin; refine wpList_append_sk rfl (.tmp 50) (.tmp 54) rfl (b1 + 1) _ _ _ _ rfl rfl (unhide HOK2) (by first | exact unhide HS3 _ (unhide HB3) | exact unhide HS4 _ (unhide HB3)) (unhide HLT2) (by omega) ?_)
        intro v3 w4 hok3 hgr3
        replace hok3 : Ok .i32 21 w4 (b1 + 1) v3 (([] ++ st.xs.take cap) ++ [nn] ++ st.xs.drop cap) := by simpa using hok3
        obtain ⟨q3, cq3, hv3, h31, h32⟩ := hok3.sk.shape
        clear h31 h32
        generalize (([] ++ st.xs.take cap) ++ [nn] ++ st.xs.drop cap).length = n3 at hv3
        subst hv3
        have hvb : ∀ g, v2.ownBlock = some g → b1 + 1 ≤ g := fun g hh => ((unhide HOK2).row.lt g hh).1
        have hR9 := (unhide HR7).grown hgr3 (fun hh => by have := hvb _ hh; omega)
        have hR10 := (unhide HR8).grown hgr3 (fun hh => by have := hvb _ hh; omega)
        have hb4 := (unhide HB3).grown hgr3 (by omega) (fun g hh => by have := hvb g hh; omega)
        have hs4 : b1 + 1 ≤ w4.heap.size := by have := hgr3.size; omega
        have hvb3 : ∀ g, (Value.slice q3 n3 cq3).ownBlock = some g → b1 + 1 ≤ g := fun g hh => (hok3.row.lt g hh).1
        clear hgr3 c0 c1 c2 c3 c4 f0 f1 f2 f3 f4 HR7 HR8 HB3 HOK2 hvb hb3s
        have k1 := hR9.set0 (Value.slice q3 n3 cq3)
        have k1o := hR10.other (j := 0) (g := b0) (by omega) (Value.slice q3 n3 cq3)
        have hok4 : Ok .i32 21 (w4.setCell ⟨b0, 0, none⟩ (Value.slice q3 n3 cq3)) (b1 + 1) (Value.slice q3 n3 cq3) (([] ++ st.xs.take cap) ++ [nn] ++ st.xs.drop cap) := ok_grown hok3 (grown_setc (grown_refl w4 (some b0)) (Value.slice q3 n3 cq3)) (.inr (fun hh => by have := hvb3 _ hh; omega))
        have hb5 : Below b0 w (w4.setCell ⟨b0, 0, none⟩ (Value.slice q3 n3 cq3)) := hb4.setCell (Nat.le_refl _) _
        obtain ⟨W5, hW5⟩ : ∃ W5, w4.setCell ⟨b0, 0, none⟩ (Value.slice q3 n3 cq3) = W5 := ⟨_, rfl⟩
        rw [hW5] at k1 k1o hok4 hb5
        obtain ⟨c0, c1, c2, c3, c4, f0, f1, f2, f3, f4⟩ := hR9.cells
        obtain ⟨u0, u1, u2, u3, u4, y0, y1, y2, y3, y4⟩ := k1.cells
        clear hR9 hR10 hok3 hb4
        have k2 := k1.set3 ad
        have k2o := k1o.other (j := 3) (g := b0) (by omega) (.int .i64 ad)
        have hok5 : Ok .i32 21 (W5.setCell ⟨b0, 3, none⟩ (.int .i64 ad)) (b1 + 1) (Value.slice q3 n3 cq3) (([] ++ st.xs.take cap) ++ [nn] ++ st.xs.drop cap) := ok_grown hok4 (grown_setc (grown_refl W5 (some b0)) _) (.inr (fun hh => by have := hvb3 _ hh; omega))
        have hb6 : Below b0 w (W5.setCell ⟨b0, 3, none⟩ (.int .i64 ad)) := hb5.setCell (Nat.le_refl _) _
        obtain ⟨W6, hW6⟩ : ∃ W6, W5.setCell ⟨b0, 3, none⟩ (.int .i64 ad) = W6 := ⟨_, rfl⟩
        rw [hW6] at k2 k2o hok5 hb6
        clear k1 k1o hok4 hb5
        have k3 := k2.set4 false
        have k3o := k2o.other (j := 4) (g := b0) (by omega) (.bool false)
        have hok6 : Ok .i32 21 (W6.setCell ⟨b0, 4, none⟩ (.bool false)) (b1 + 1) (Value.slice q3 n3 cq3) (([] ++ st.xs.take cap) ++ [nn] ++ st.xs.drop cap) := ok_grown hok5 (grown_setc (grown_refl W6 (some b0)) _) (.inr (fun hh => by have := hvb3 _ hh; omega))
        have hb7 : Below b0 w (W6.setCell ⟨b0, 4, none⟩ (.bool false)) := hb6.setCell (Nat.le_refl _) _
        obtain ⟨_, _, _, _, _, x0, x1, x2, x3, x4⟩ := k2.cells
        obtain ⟨W7, hW7⟩ : ∃ W7, W6.setCell ⟨b0, 4, none⟩ (.bool false) = W7 := ⟨_, rfl⟩
        rw [hW7] at k3 k3o hok6 hb7
        clear k2 k2o hok5 hb6
        have k4 := k3.set2 ((cap : Int) + 1)
        have k4o := k3o.other (j := 2) (g := b0) (by omega) (.int .i64 ((cap : Int) + 1))
        have hok7 : Ok .i32 21 (W7.setCell ⟨b0, 2, none⟩ (.int .i64 ((cap : Int) + 1))) (b1 + 1) (Value.slice q3 n3 cq3) (([] ++ st.xs.take cap) ++ [nn] ++ st.xs.drop cap) := ok_grown hok6 (grown_setc (grown_refl W7 (some b0)) _) (.inr (fun hh => by have := hvb3 _ hh; omega))
        have hb8 : Below b0 w (W7.setCell ⟨b0, 2, none⟩ (.int .i64 ((cap : Int) + 1))) := hb7.setCell (Nat.le_refl _) _
        obtain ⟨_, _, _, _, _, p0, p1, p2, p3, p4⟩ := k3.cells
        obtain ⟨W8, hW8⟩ : ∃ W8, W7.setCell ⟨b0, 2, none⟩ (.int .i64 ((cap : Int) + 1)) = W8 := ⟨_, rfl⟩
        rw [hW8] at k4 k4o hok7 hb8
        clear k3 k3o hok6 hb7
        obtain ⟨e0, e1, e2, e3, e4, _⟩ := k4.cells
        obtain ⟨_, _, _, _, _, m0, m1, m2, m3, m4⟩ := k4o.cells
        obtain ⟨W9, hW9, k5, hb9, _, hg9⟩ := put5 k4o hb8 hle (Value.slice q3 n3 cq3) nn ((cap : Int) + 1) ad false
        have HF := hide (unhide HFIN (Value.slice q3 n3 cq3) W9 (ok_grown hok7 hg9 (.inr (fun hh => by have := hvb3 _ hh; omega))) hb9)
        obtain ⟨z0, z1, z2, z3, z4, _⟩ := k5.cells
        clear k4 k4o hok7 hb8 hb9 hg9 k5 HFIN HS1 hvb3
        go_wp2_with (go_at_call 17; refine (unhide (HADP _)).mono ?_; rintro e wq ⟨rfl, rfl⟩; clear HADP)
        refine bodyPost_ret (v := .tuple #[StV (Value.slice q3 n3 cq3) nn ((cap : Int) + 1) ad false, .bool true]) (by simp [results, Try.results30, go_sem, z0, z1, z2, z3, z4, StV]) rfl (unhide HF)
      · have HS3 : Hid (∀ W', Below b0 w W' → Sk .i32 W' (.slice (some ⟨b, off + p, none⟩) (st.xs.length - p) (cap - p)) (st.xs.drop p)) := fun W' hb => by
          have hh := ((unhide HV0).below (w' := W') (by rw [unhide HB0]; exact hb)).cut (l := p) (h := st.xs.length) (m := cap) hpl (Nat.le_refl _) hc1 (Nat.le_refl _)
          rw [List.take_of_length_le (by rw [List.length_drop]; omega)] at hh
          simpa [sliced, hcp, addr_add] using hh
        have HS4 := HS3
        have hbelB := hide hbel1
        have HADP := fun W => hide (refAdapt_any d ((st.xs.length : Int) + 1) st.first W (by omega) (by omega))
        have hnil : Ok .i32 21 W1 (b1 + 1) (.slice none 0 0) [] := Ok.nil _ _ _ _
        have HFIN : Hid (∀ v3 W9, Ok .i32 21 W9 (b1 + 1) v3 (([] ++ st.xs.take p) ++ [Pu.stepN st d] ++ st.xs.drop p) → Below b0 w W9 → StepD w st d (.returned (.tuple #[StV v3 (Pu.stepN st d) ((p : Int) + 1) (Pu.adapt d ((st.xs.length : Int) + 1) st.first) false, .bool true])) W9) := by
          intro v3 W9 h1 h2
          refine ⟨by rw [unhide HB0]; exact h2, .inr ⟨hok, v3, ?_, ?_⟩⟩
          · show _ = Ending.returned (.tuple #[StV v3 (Pu.stepN st d) (Pu.stepP st d + 1) (Pu.adapt d ((st.xs.length : Int) + 1) st.first) false, .bool true])
            rw [hp]
          · have he : (Pu.step st d).xs = ([] ++ st.xs.take p) ++ [Pu.stepN st d] ++ st.xs.drop p := by
              show Pu.ins st.xs (Pu.stepP st d).toNat (Pu.stepN st d) = _
              rw [hp]; simp [Pu.ins]
            rw [he, unhide HB0]
            exact h1.lower (by omega)
        have hlt : (st.xs.take p).length ≤ 1000000 := by rw [List.length_take]; omega
        have hld : (st.xs.drop p).length ≤ 1000000 := by rw [List.length_drop]; omega
        clear hok hbel1 HV0 HP hp0
        generalize Pu.adapt d ((st.xs.length : Int) + 1) st.first = ad at *
        generalize Pu.stepN st d = nn at *
        clear hp
        go_wp2_with fail
        refine (unhide (HV _)).mono ?_
        rintro e wq ⟨rfl, rfl⟩
        clear HV
        rw [unhide HPE]
        clear HPE hq0 hq1 hr0 hr1
        go_wp2_with (at_builtin; refine wpList_append_sk rfl (.tmp 38) (.tmp 42) rfl (b1 + 1) _ _ _ _ rfl rfl hnil (unhide HS1 _ (unhide hbelB)) (by rw [List.length_nil]; omega) (by omega) ?_)
        intro v1 w2 hok1 hgr1
        have hR5 := hR2.grown hgr1 (by simp [Value.ownBlock])
        have hR6 := hR3.grown hgr1 (by simp [Value.ownBlock])
        have hs2 := hgr1.size
        have hb2 := (unhide hbelB).grown hgr1 (by omega) (fun k hk => by simp [Value.ownBlock] at hk)
        clear hgr1 c0 c1 c2 c3 c4 f0 f1 f2 f3 f4 d0 d1 d2 d3 d4 g0 g1 g2 g3 g4 hR2 hR3 hnil hbelB
        obtain ⟨c0, c1, c2, c3, c4, f0, f1, f2, f3, f4⟩ := hR5.cells
        have hone := Sk.one w2 nn (by omega)
        have hok1a := ok_alloc hok1 (.cells #[.int .i32 nn] 21)
        have hs2a := alloc_size w2 (.cells #[.int .i32 nn] 21)
        have HS2A := hide hs2a
        have HOK := hide hok1a
        have HON := hide hone
        have HR5 := hide hR5
        have HR6 := hide hR6
        have HB2 := hide hb2
        have HLT1 : Hid (([] ++ st.xs.take p).length + [nn].length ≤ 1000000000) := by show _ ≤ _; simp; omega
        clear hs2a hok1a hone hR5 hR6 hb2 hok1
        go_wp2_with (at_builtin; refine wpList_append_sk rfl (.tmp 44) (.tmp 48) rfl (b1 + 1) _ _ _ _ rfl rfl (unhide HOK) (unhide HON) (unhide HLT1) (by have := unhide HS2A; omega) ?_)
        intro v2 w3 hok2 hgr2
        have hvb : ∀ g, v1.ownBlock = some g → b1 + 1 ≤ g := fun g hh => ((unhide HOK).row.lt g hh).1
        have hR7 := ((unhide HR5).alloc (.cells #[.int .i32 nn] 21)).grown hgr2 (fun hh => by have := hvb _ hh; omega)
        have hR8 := ((unhide HR6).alloc (.cells #[.int .i32 nn] 21)).grown hgr2 (fun hh => by have := hvb _ hh; omega)
        have hs3 := hgr2.size
        have hs3a := unhide HS2A
        have hb3 := ((unhide HB2).alloc (by omega) (.cells #[.int .i32 nn] 21)).grown hgr2 (by omega) (fun g hh => by have := hvb g hh; omega)
        have hb3s : b1 + 1 ≤ w3.heap.size := by omega
        clear hgr2 c0 c1 c2 c3 c4 f0 f1 f2 f3 f4 HR5 HR6 HB2 HOK HON HS2A hvb hs3 hs3a hs2
        obtain ⟨c0, c1, c2, c3, c4, f0, f1, f2, f3, f4⟩ := hR7.cells
        have HOK2 := hide hok2
        have HR7 := hide hR7
        have HR8 := hide hR8
        have HB3 := hide hb3
        have HLT2 : Hid (([] ++ st.xs.take p ++ [nn]).length + (st.xs.drop p).length ≤ 1000000000) := by show _ ≤ _; simp; omega
        clear hok2 hR7 hR8 hb3
        go_wp2_with (at_builtin; refine wpList_append_sk rfl (.tmp 50) (.tmp 54) rfl (b1 + 1) _ _ _ _ rfl rfl (unhide HOK2) (by first | exact unhide HS3 _ (unhide HB3) | exact unhide HS4 _ (unhide HB3)) (unhide HLT2) (by omega) ?_)
        intro v3 w4 hok3 hgr3
        replace hok3 : Ok .i32 21 w4 (b1 + 1) v3 (([] ++ st.xs.take p) ++ [nn] ++ st.xs.drop p) := by simpa using hok3
        obtain ⟨q3, cq3, hv3, h31, h32⟩ := hok3.sk.shape
        clear h31 h32
        generalize (([] ++ st.xs.take p) ++ [nn] ++ st.xs.drop p).length = n3 at hv3
        subst hv3
        have hvb : ∀ g, v2.ownBlock = some g → b1 + 1 ≤ g := fun g hh => ((unhide HOK2).row.lt g hh).1
        have hR9 := (unhide HR7).grown hgr3 (fun hh => by have := hvb _ hh; omega)
        have hR10 := (unhide HR8).grown hgr3 (fun hh => by have := hvb _ hh; omega)
        have hb4 := (unhide HB3).grown hgr3 (by omega) (fun g hh => by have := hvb g hh; omega)
        have hs4 : b1 + 1 ≤ w4.heap.size := by have := hgr3.size; omega
        have hvb3 : ∀ g, (Value.slice q3 n3 cq3).ownBlock = some g → b1 + 1 ≤ g := fun g hh => (hok3.row.lt g hh).1
        clear hgr3 c0 c1 c2 c3 c4 f0 f1 f2 f3 f4 HR7 HR8 HB3 HOK2 hvb hb3s
        have k1 := hR9.set0 (Value.slice q3 n3 cq3)
        have k1o := hR10.other (j := 0) (g := b0) (by omega) (Value.slice q3 n3 cq3)
        have hok4 : Ok .i32 21 (w4.setCell ⟨b0, 0, none⟩ (Value.slice q3 n3 cq3)) (b1 + 1) (Value.slice q3 n3 cq3) (([] ++ st.xs.take p) ++ [nn] ++ st.xs.drop p) := ok_grown hok3 (grown_setc (grown_refl w4 (some b0)) (Value.slice q3 n3 cq3)) (.inr (fun hh => by have := hvb3 _ hh; omega))
        have hb5 : Below b0 w (w4.setCell ⟨b0, 0, none⟩ (Value.slice q3 n3 cq3)) := hb4.setCell (Nat.le_refl _) _
        obtain ⟨W5, hW5⟩ : ∃ W5, w4.setCell ⟨b0, 0, none⟩ (Value.slice q3 n3 cq3) = W5 := ⟨_, rfl⟩
        rw [hW5] at k1 k1o hok4 hb5
        obtain ⟨c0, c1, c2, c3, c4, f0, f1, f2, f3, f4⟩ := hR9.cells
        obtain ⟨u0, u1, u2, u3, u4, y0, y1, y2, y3, y4⟩ := k1.cells
        clear hR9 hR10 hok3 hb4
        have k2 := k1.set3 ad
        have k2o := k1o.other (j := 3) (g := b0) (by omega) (.int .i64 ad)
        have hok5 : Ok .i32 21 (W5.setCell ⟨b0, 3, none⟩ (.int .i64 ad)) (b1 + 1) (Value.slice q3 n3 cq3) (([] ++ st.xs.take p) ++ [nn] ++ st.xs.drop p) := ok_grown hok4 (grown_setc (grown_refl W5 (some b0)) _) (.inr (fun hh => by have := hvb3 _ hh; omega))
        have hb6 : Below b0 w (W5.setCell ⟨b0, 3, none⟩ (.int .i64 ad)) := hb5.setCell (Nat.le_refl _) _
        obtain ⟨W6, hW6⟩ : ∃ W6, W5.setCell ⟨b0, 3, none⟩ (.int .i64 ad) = W6 := ⟨_, rfl⟩
        rw [hW6] at k2 k2o hok5 hb6
        clear k1 k1o hok4 hb5
        have k3 := k2.set4 false
        have k3o := k2o.other (j := 4) (g := b0) (by omega) (.bool false)
        have hok6 : Ok .i32 21 (W6.setCell ⟨b0, 4, none⟩ (.bool false)) (b1 + 1) (Value.slice q3 n3 cq3) (([] ++ st.xs.take p) ++ [nn] ++ st.xs.drop p) := ok_grown hok5 (grown_setc (grown_refl W6 (some b0)) _) (.inr (fun hh => by have := hvb3 _ hh; omega))
        have hb7 : Below b0 w (W6.setCell ⟨b0, 4, none⟩ (.bool false)) := hb6.setCell (Nat.le_refl _) _
        obtain ⟨_, _, _, _, _, x0, x1, x2, x3, x4⟩ := k2.cells
        obtain ⟨W7, hW7⟩ : ∃ W7, W6.setCell ⟨b0, 4, none⟩ (.bool false) = W7 := ⟨_, rfl⟩
        rw [hW7] at k3 k3o hok6 hb7
        clear k2 k2o hok5 hb6
        have k4 := k3.set2 ((p : Int) + 1)
        have k4o := k3o.other (j := 2) (g := b0) (by omega) (.int .i64 ((p : Int) + 1))
        have hok7 : Ok .i32 21 (W7.setCell ⟨b0, 2, none⟩ (.int .i64 ((p : Int) + 1))) (b1 + 1) (Value.slice q3 n3 cq3) (([] ++ st.xs.take p) ++ [nn] ++ st.xs.drop p) := ok_grown hok6 (grown_setc (grown_refl W7 (some b0)) _) (.inr (fun hh => by have := hvb3 _ hh; omega))
        have hb8 : Below b0 w (W7.setCell ⟨b0, 2, none⟩ (.int .i64 ((p : Int) + 1))) := hb7.setCell (Nat.le_refl _) _
        obtain ⟨_, _, _, _, _, p0, p1, p2, p3, p4⟩ := k3.cells
        obtain ⟨W8, hW8⟩ : ∃ W8, W7.setCell ⟨b0, 2, none⟩ (.int .i64 ((p : Int) + 1)) = W8 := ⟨_, rfl⟩
        rw [hW8] at k4 k4o hok7 hb8
        clear k3 k3o hok6 hb7
        obtain ⟨e0, e1, e2, e3, e4, _⟩ := k4.cells
        obtain ⟨_, _, _, _, _, m0, m1, m2, m3, m4⟩ := k4o.cells
        obtain ⟨W9, hW9, k5, hb9, _, hg9⟩ := put5 k4o hb8 hle (Value.slice q3 n3 cq3) nn ((p : Int) + 1) ad false
        have HF := hide (unhide HFIN (Value.slice q3 n3 cq3) W9 (ok_grown hok7 hg9 (.inr (fun hh => by have := hvb3 _ hh; omega))) hb9)
        obtain ⟨z0, z1, z2, z3, z4, _⟩ := k5.cells
        clear k4 k4o hok7 hb8 hb9 hg9 k5 HFIN HS1 hvb3
        go_wp2_with (go_at_call 17; refine (unhide (HADP _)).mono ?_; rintro e wq ⟨rfl, rfl⟩; clear HADP)
        refine bodyPost_ret (v := .tuple #[StV (Value.slice q3 n3 cq3) nn ((p : Int) + 1) ad false, .bool true]) (by simp [results, Try.results30, go_sem, z0, z1, z2, z3, z4, StV]) rfl (unhide HF)
    · rw [decide_eq_false hok] at HV
      obtain ⟨W2, hW2, hR4, hbel2, _⟩ := put5 hR3 hbel1 hle (.slice (some ⟨b, off, none⟩) st.xs.length cap) (Pu.stepN st d) st.i st.bias st.first
      have HF : Hid (StepD w st d (.returned (.tuple #[StV (.slice (some ⟨b, off, none⟩) st.xs.length cap) (Pu.stepN st d) st.i st.bias st.first, .bool false])) W2) := ⟨by rw [unhide HB0]; exact hbel2, .inl ⟨hok, _, _, _, _, _, _, _, rfl⟩⟩
      clear hok hbel1 hbel2 hR2 hR3 HV0 HP
      generalize Pu.stepN st d = nn at *
      go_wp2_with fail
      refine (unhide (HV _)).mono ?_
      rintro e wq ⟨rfl, rfl⟩
      clear HV
      go_wp2
      obtain ⟨z0, z1, z2, z3, z4, _⟩ := hR4.cells
      refine bodyPost_ret (v := .tuple #[StV (.slice (some ⟨b, off, none⟩) st.xs.length cap) nn st.i st.bias st.first, .bool false]) (by simp [results, Try.results30, go_sem, z0, z1, z2, z3, z4, StV]) rfl (unhide HF)

set_option maxRecDepth 20000 in
set_option maxHeartbeats 8000000 in
theorem refStep_nil (st : Pu.St) (d : Int) (w : World) (hx0 : st.xs = []) (hn : 0 ≤ st.n ∧ st.n ≤ 1114111) (hi : 0 ≤ st.i ∧ st.i ≤ 10000000) (hd : 0 ≤ d ∧ d ≤ 2147483647) :
    Calls Try.prog 30 #[StV (.slice none 0 0) st.n st.i st.bias st.first, .int .i64 d] w (StepD w st d) := by
  have hN : Pu.stepN st d = st.n + (st.i + d) / (st.xs.length + 1) := rfl
  have hP : Pu.stepP st d = (st.i + d) % (st.xs.length + 1) := rfl
  have hq0 : 0 ≤ (st.i + d) / ((st.xs.length : Int) + 1) := Int.ediv_nonneg (by omega) (by omega)
  have hq1 : (st.i + d) / ((st.xs.length : Int) + 1) ≤ st.i + d := Int.ediv_le_self _ (by omega)
  have hr0 : 0 ≤ (st.i + d) % ((st.xs.length : Int) + 1) := Int.emod_nonneg _ (by omega)
  have hr1 : (st.i + d) % ((st.xs.length : Int) + 1) < (st.xs.length : Int) + 1 := Int.emod_lt_of_pos _ (by omega)
  have hn0 : 0 ≤ Pu.stepN st d ∧ Pu.stepN st d ≤ 9000000000 := by rw [hN]; omega
  have hp0 : 0 ≤ Pu.stepP st d ∧ Pu.stepP st d ≤ st.xs.length := by rw [hP]; omega
  have hl0 : st.xs.length = 0 := by rw [hx0]; rfl
  rw [hl0] at hN hP hp0
  have hN1 : Pu.stepN st d = st.n + (st.i + d) := by rw [hN]; simp
  have HN := hide hN1.symm
  obtain ⟨W, b0, b1, hW, hb0, hb1, hR0, hR1, hbel, hsz⟩ := box_two w (.slice none 0 0) st.n st.i st.bias st.first
  obtain ⟨c0, c1, c2, c3, c4, f0, f1, f2, f3, f4⟩ := hR0.cells
  have HB0 := hide hb0
  have HB1 := hide hb1
  unfold StV
  clear hN hP hN1 hq0 hq1 hr0 hr1
  have HX0 := hide hx0
  have HL0 := hide hl0
  clear hx0 hl0
  go_enter Try.func30, Try.ntmps30
  go_wp2
  go_region
  rw [unhide HN]
  have hR2 : StR (W.setCell ⟨b0, 1, none⟩ (.int .i64 (Pu.stepN st d))).drew b0 (.slice none 0 0) (Pu.stepN st d) st.i st.bias st.first := (hR0.set1 _).drew
  have hR3 : StR (W.setCell ⟨b0, 1, none⟩ (.int .i64 (Pu.stepN st d))).drew b1 (.slice none 0 0) 0 0 0 false := (hR1.other (by omega) _).drew
  have hbel1 : Below b0 w (W.setCell ⟨b0, 1, none⟩ (.int .i64 (Pu.stepN st d))).drew := (hbel.setCell (Nat.le_refl _) _).drew
  have hsz1 : (W.setCell ⟨b0, 1, none⟩ (.int .i64 (Pu.stepN st d))).drew.heap.size = b1 + 1 := by rw [drew_size, setc_size]; exact hsz
  generalize (W.setCell ⟨b0, 1, none⟩ (.int .i64 (Pu.stepN st d))).drew = W1 at *
  clear c0 c1 c2 c3 c4 f0 f1 f2 f3 f4 hR0 hR1 hbel hsz hW HN
  obtain ⟨c0, c1, c2, c3, c4, f0, f1, f2, f3, f4⟩ := hR2.cells
  obtain ⟨d0, d1, d2, d3, d4, g0, g1, g2, g3, g4⟩ := hR3.cells
  have hle : b0 ≤ b1 := by omega
  by_cases hbig : 1114111 < Pu.stepN st d
  · have hno : ¬ Utf.okc (Pu.stepN st d) := by unfold Utf.okc; omega
    obtain ⟨W2, hW2, hR4, hbel2, _⟩ := put5 hR3 hbel1 hle (.slice none 0 0) (Pu.stepN st d) st.i st.bias st.first
    have HF : Hid (StepD w st d (.returned (.tuple #[StV (.slice none 0 0) (Pu.stepN st d) st.i st.bias st.first, .bool false])) W2) := ⟨by rw [unhide HB0]; exact hbel2, .inl ⟨hno, _, _, _, _, _, _, _, rfl⟩⟩
    clear hno hbel1 hbel2 hR2 hR3
    generalize Pu.stepN st d = nn at *
    go_wp2
    obtain ⟨z0, z1, z2, z3, z4, _⟩ := hR4.cells
    refine bodyPost_ret (v := .tuple #[StV (.slice none 0 0) nn st.i st.bias st.first, .bool false]) (by simp [results, Try.results30, go_sem, z0, z1, z2, z3, z4, StV]) rfl (unhide HF)
  · have HV := fun W => hide (refValid_any (Pu.stepN st d) W (by omega))
    by_cases hok : Utf.okc (Pu.stepN st d)
    · rw [decide_eq_true hok] at HV
      have hpz : Pu.stepP st d = ((0 : Nat) : Int) := by omega
      have hp := hpz
      have HS1 : Hid (∀ W', Below b0 w W' → Sk .i32 W' (.slice none 0 0) (st.xs.take 0)) := fun W' hb => by rw [List.take_zero]; exact Sk.nil _ _
      have HS3 : Hid (∀ W', Below b0 w W' → Sk .i32 W' (.slice none 0 0) (st.xs.drop 0)) := fun W' hb => by rw [unhide HX0]; exact Sk.nil _ _
      have HS4 := HS3
      have hl : st.xs.length ≤ 1000000 := by rw [unhide HL0]; omega
      have hpl : 0 ≤ st.xs.length := by omega
      have hbelB := hide hbel1
      have HADP : ∀ W, Hid (Calls Try.prog 17 #[.int .i64 d, .int .i64 1, .bool st.first] W (IntPost W (Pu.adapt d ((st.xs.length : Int) + 1) st.first))) := fun W => by have := refAdapt_any d 1 st.first W (by omega) (by omega); rw [unhide HL0]; exact this
      have hnil : Ok .i32 21 W1 (b1 + 1) (.slice none 0 0) [] := Ok.nil _ _ _ _
      have HFIN : Hid (∀ v3 W9, Ok .i32 21 W9 (b1 + 1) v3 (([] ++ st.xs.take 0) ++ [Pu.stepN st d] ++ st.xs.drop 0) → Below b0 w W9 → StepD w st d (.returned (.tuple #[StV v3 (Pu.stepN st d) ((1 : Int)) (Pu.adapt d ((st.xs.length : Int) + 1) st.first) false, .bool true])) W9) := by
        intro v3 W9 h1 h2
        refine ⟨by rw [unhide HB0]; exact h2, .inr ⟨hok, v3, ?_, ?_⟩⟩
        · show _ = Ending.returned (.tuple #[StV v3 (Pu.stepN st d) (Pu.stepP st d + 1) (Pu.adapt d ((st.xs.length : Int) + 1) st.first) false, .bool true])
          rw [hp]; rfl
        · have he : (Pu.step st d).xs = ([] ++ st.xs.take 0) ++ [Pu.stepN st d] ++ st.xs.drop 0 := by
            show Pu.ins st.xs (Pu.stepP st d).toNat (Pu.stepN st d) = _
            rw [hp]; simp [Pu.ins]
          rw [he, unhide HB0]
          exact h1.lower (by omega)
      have hlt : (st.xs.take 0).length ≤ 1000000 := by rw [List.length_take]; omega
      have hld : (st.xs.drop 0).length ≤ 1000000 := by rw [List.length_drop]; omega
      clear hok hbel1 hp0 hpz
      generalize Pu.adapt d ((st.xs.length : Int) + 1) st.first = ad at *
      generalize Pu.stepN st d = nn at *
      clear hp
      go_wp2_with fail
      refine (unhide (HV _)).mono ?_
      rintro e wq ⟨rfl, rfl⟩
      clear HV
      go_wp2_with (at_builtin; refine wpList_append_sk rfl (.tmp 38) (.tmp 42) rfl (b1 + 1) _ _ _ _ rfl rfl hnil (unhide HS1 _ (unhide hbelB)) (by rw [List.length_nil]; omega) (by omega) ?_)
      intro v1 w2 hok1 hgr1
      have hR5 := hR2.grown hgr1 (by simp [Value.ownBlock])
      have hR6 := hR3.grown hgr1 (by simp [Value.ownBlock])
      have hs2 := hgr1.size
      have hb2 := (unhide hbelB).grown hgr1 (by omega) (fun k hk => by simp [Value.ownBlock] at hk)
      clear hgr1 c0 c1 c2 c3 c4 f0 f1 f2 f3 f4 d0 d1 d2 d3 d4 g0 g1 g2 g3 g4 hR2 hR3 hnil hbelB
      obtain ⟨c0, c1, c2, c3, c4, f0, f1, f2, f3, f4⟩ := hR5.cells
      have hone := Sk.one w2 nn (by omega)
      have hok1a := ok_alloc hok1 (.cells #[.int .i32 nn] 21)
      have hs2a := alloc_size w2 (.cells #[.int .i32 nn] 21)
      have HS2A := hide hs2a
      have HOK := hide hok1a
      have HON := hide hone
      have HR5 := hide hR5
      have HR6 := hide hR6
      have HB2 := hide hb2
      have HLT1 : Hid (([] ++ st.xs.take 0).length + [nn].length ≤ 1000000000) := by show _ ≤ _; simp
      clear hs2a hok1a hone hR5 hR6 hb2 hok1
      go_wp2_with (at_builtin; refine wpList_append_sk rfl (.tmp 44) (.tmp 48) rfl (b1 + 1) _ _ _ _ rfl rfl (unhide HOK) (unhide HON) (unhide HLT1) (by have := unhide HS2A; omega) ?_)
      intro v2 w3 hok2 hgr2
      have hvb : ∀ g, v1.ownBlock = some g → b1 + 1 ≤ g := fun g hh => ((unhide HOK).row.lt g hh).1
      have hR7 := ((unhide HR5).alloc (.cells #[.int .i32 nn] 21)).grown hgr2 (fun hh => by have := hvb _ hh; omega)
      have hR8 := ((unhide HR6).alloc (.cells #[.int .i32 nn] 21)).grown hgr2 (fun hh => by have := hvb _ hh; omega)
      have hs3 := hgr2.size
      have hs3a := unhide HS2A
      have hb3 := ((unhide HB2).alloc (by omega) (.cells #[.int .i32 nn] 21)).grown hgr2 (by omega) (fun g hh => by have := hvb g hh; omega)
      have hb3s : b1 + 1 ≤ w3.heap.size := by omega
      clear hgr2 c0 c1 c2 c3 c4 f0 f1 f2 f3 f4 HR5 HR6 HB2 HOK HON HS2A hvb hs3 hs3a hs2
      obtain ⟨c0, c1, c2, c3, c4, f0, f1, f2, f3, f4⟩ := hR7.cells
      have HOK2 := hide hok2
      have HR7 := hide hR7
      have HR8 := hide hR8
      have HB3 := hide hb3
      have HLT2 : Hid (([] ++ st.xs.take 0 ++ [nn]).length + (st.xs.drop 0).length ≤ 1000000000) := by show _ ≤ _; rw [unhide HX0]; simp
      clear hok2 hR7 hR8 hb3
      go_wp2_with (at_builtin; refine wpList_append_sk rfl (.tmp 50) (.tmp 54) rfl (b1 + 1) _ _ _ _ rfl rfl (unhide HOK2) (by first | exact unhide HS3 _ (unhide HB3) | exact unhide HS4 _ (unhide HB3)) (unhide HLT2) (by omega) ?_)
      intro v3 w4 hok3 hgr3
      replace hok3 : Ok .i32 21 w4 (b1 + 1) v3 (([] ++ st.xs.take 0) ++ [nn] ++ st.xs.drop 0) := by simpa using hok3
      obtain ⟨q3, cq3, hv3, h31, h32⟩ := hok3.sk.shape
      clear h31 h32
      generalize (([] ++ st.xs.take 0) ++ [nn] ++ st.xs.drop 0).length = n3 at hv3
      subst hv3
      have hvb : ∀ g, v2.ownBlock = some g → b1 + 1 ≤ g := fun g hh => ((unhide HOK2).row.lt g hh).1
      have hR9 := (unhide HR7).grown hgr3 (fun hh => by have := hvb _ hh; omega)
      have hR10 := (unhide HR8).grown hgr3 (fun hh => by have := hvb _ hh; omega)
      have hb4 := (unhide HB3).grown hgr3 (by omega) (fun g hh => by have := hvb g hh; omega)
      have hs4 : b1 + 1 ≤ w4.heap.size := by have := hgr3.size; omega
      have hvb3 : ∀ g, (Value.slice q3 n3 cq3).ownBlock = some g → b1 + 1 ≤ g := fun g hh => (hok3.row.lt g hh).1
      clear hgr3 c0 c1 c2 c3 c4 f0 f1 f2 f3 f4 HR7 HR8 HB3 HOK2 hvb hb3s
      have k1 := hR9.set0 (Value.slice q3 n3 cq3)
      have k1o := hR10.other (j := 0) (g := b0) (by omega) (Value.slice q3 n3 cq3)
      have hok4 : Ok .i32 21 (w4.setCell ⟨b0, 0, none⟩ (Value.slice q3 n3 cq3)) (b1 + 1) (Value.slice q3 n3 cq3) (([] ++ st.xs.take 0) ++ [nn] ++ st.xs.drop 0) := ok_grown hok3 (grown_setc (grown_refl w4 (some b0)) (Value.slice q3 n3 cq3)) (.inr (fun hh => by have := hvb3 _ hh; omega))
      have hb5 : Below b0 w (w4.setCell ⟨b0, 0, none⟩ (Value.slice q3 n3 cq3)) := hb4.setCell (Nat.le_refl _) _
      obtain ⟨W5, hW5⟩ : ∃ W5, w4.setCell ⟨b0, 0, none⟩ (Value.slice q3 n3 cq3) = W5 := ⟨_, rfl⟩
      rw [hW5] at k1 k1o hok4 hb5
      obtain ⟨c0, c1, c2, c3, c4, f0, f1, f2, f3, f4⟩ := hR9.cells
      obtain ⟨u0, u1, u2, u3, u4, y0, y1, y2, y3, y4⟩ := k1.cells
      clear hR9 hR10 hok3 hb4
      have k2 := k1.set3 ad
      have k2o := k1o.other (j := 3) (g := b0) (by omega) (.int .i64 ad)
      have hok5 : Ok .i32 21 (W5.setCell ⟨b0, 3, none⟩ (.int .i64 ad)) (b1 + 1) (Value.slice q3 n3 cq3) (([] ++ st.xs.take 0) ++ [nn] ++ st.xs.drop 0) := ok_grown hok4 (grown_setc (grown_refl W5 (some b0)) _) (.inr (fun hh => by have := hvb3 _ hh; omega))
      have hb6 : Below b0 w (W5.setCell ⟨b0, 3, none⟩ (.int .i64 ad)) := hb5.setCell (Nat.le_refl _) _
      obtain ⟨W6, hW6⟩ : ∃ W6, W5.setCell ⟨b0, 3, none⟩ (.int .i64 ad) = W6 := ⟨_, rfl⟩
      rw [hW6] at k2 k2o hok5 hb6
      clear k1 k1o hok4 hb5
      have k3 := k2.set4 false
      have k3o := k2o.other (j := 4) (g := b0) (by omega) (.bool false)
      have hok6 : Ok .i32 21 (W6.setCell ⟨b0, 4, none⟩ (.bool false)) (b1 + 1) (Value.slice q3 n3 cq3) (([] ++ st.xs.take 0) ++ [nn] ++ st.xs.drop 0) := ok_grown hok5 (grown_setc (grown_refl W6 (some b0)) _) (.inr (fun hh => by have := hvb3 _ hh; omega))
      have hb7 : Below b0 w (W6.setCell ⟨b0, 4, none⟩ (.bool false)) := hb6.setCell (Nat.le_refl _) _
      obtain ⟨_, _, _, _, _, x0, x1, x2, x3, x4⟩ := k2.cells
      obtain ⟨W7, hW7⟩ : ∃ W7, W6.setCell ⟨b0, 4, none⟩ (.bool false) = W7 := ⟨_, rfl⟩
      rw [hW7] at k3 k3o hok6 hb7
      clear k2 k2o hok5 hb6
      have k4 := k3.set2 ((1 : Int))
      have k4o := k3o.other (j := 2) (g := b0) (by omega) (.int .i64 ((1 : Int)))
      have hok7 : Ok .i32 21 (W7.setCell ⟨b0, 2, none⟩ (.int .i64 ((1 : Int)))) (b1 + 1) (Value.slice q3 n3 cq3) (([] ++ st.xs.take 0) ++ [nn] ++ st.xs.drop 0) := ok_grown hok6 (grown_setc (grown_refl W7 (some b0)) _) (.inr (fun hh => by have := hvb3 _ hh; omega))
      have hb8 : Below b0 w (W7.setCell ⟨b0, 2, none⟩ (.int .i64 ((1 : Int)))) := hb7.setCell (Nat.le_refl _) _
      obtain ⟨_, _, _, _, _, p0, p1, p2, p3, p4⟩ := k3.cells
      obtain ⟨W8, hW8⟩ : ∃ W8, W7.setCell ⟨b0, 2, none⟩ (.int .i64 ((1 : Int))) = W8 := ⟨_, rfl⟩
      rw [hW8] at k4 k4o hok7 hb8
      clear k3 k3o hok6 hb7
      obtain ⟨e0, e1, e2, e3, e4, _⟩ := k4.cells
      obtain ⟨_, _, _, _, _, m0, m1, m2, m3, m4⟩ := k4o.cells
      obtain ⟨W9, hW9, k5, hb9, _, hg9⟩ := put5 k4o hb8 hle (Value.slice q3 n3 cq3) nn ((1 : Int)) ad false
      have HF := hide (unhide HFIN (Value.slice q3 n3 cq3) W9 (ok_grown hok7 hg9 (.inr (fun hh => by have := hvb3 _ hh; omega))) hb9)
      obtain ⟨z0, z1, z2, z3, z4, _⟩ := k5.cells
      clear k4 k4o hok7 hb8 hb9 hg9 k5 HFIN HS1 hvb3
      go_wp2_with (go_at_call 17; refine (unhide (HADP _)).mono ?_; rintro e wq ⟨rfl, rfl⟩; clear HADP)
      refine bodyPost_ret (v := .tuple #[StV (Value.slice q3 n3 cq3) nn ((1 : Int)) ad false, .bool true]) (by simp [results, Try.results30, go_sem, z0, z1, z2, z3, z4, StV]) rfl (unhide HF)
    · rw [decide_eq_false hok] at HV
      obtain ⟨W2, hW2, hR4, hbel2, _⟩ := put5 hR3 hbel1 hle (.slice none 0 0) (Pu.stepN st d) st.i st.bias st.first
      have HF : Hid (StepD w st d (.returned (.tuple #[StV (.slice none 0 0) (Pu.stepN st d) st.i st.bias st.first, .bool false])) W2) := ⟨by rw [unhide HB0]; exact hbel2, .inl ⟨hok, _, _, _, _, _, _, _, rfl⟩⟩
      clear hok hbel1 hbel2 hR2 hR3
      generalize Pu.stepN st d = nn at *
      go_wp2_with fail
      refine (unhide (HV _)).mono ?_
      rintro e wq ⟨rfl, rfl⟩
      clear HV
      go_wp2
      obtain ⟨z0, z1, z2, z3, z4, _⟩ := hR4.cells
      refine bodyPost_ret (v := .tuple #[StV (.slice none 0 0) nn st.i st.bias st.first, .bool false]) (by simp [results, Try.results30, go_sem, z0, z1, z2, z3, z4, StV]) rfl (unhide HF)

theorem refStep_any (v : Value) (st : Pu.St) (d : Int) (w : World) (hv : Sk .i32 w v st.xs) (hnv : st.xs = [] → v = .slice none 0 0) (hl : st.xs.length ≤ 1000000) (hn : 0 ≤ st.n ∧ st.n ≤ 1114111) (hi : 0 ≤ st.i ∧ st.i ≤ 10000000) (hd : 0 ≤ d ∧ d ≤ 2147483647) :
    Calls Try.prog 30 #[StV v st.n st.i st.bias st.first, .int .i64 d] w (StepD w st d) := by
  rcases Nat.eq_zero_or_pos st.xs.length with h0 | h0
  · have hx : st.xs = [] := List.eq_nil_of_length_eq_zero h0
    rw [hnv hx]
    exact refStep_nil st d w hx hn hi hd
  · exact refStep_row v st d w hv hl h0 hn hi hd
end Go.Proofs.Ytgccindoinhphaa
