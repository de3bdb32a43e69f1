/- The walk of CanonTurned, out of what canon's calls are asked. -/
import Derived.Test.YteigibncdbgpmaaGreatDoorTuC7
import Derived.Test.YteigibncdbgpmaaGreatDoorGc7
namespace Go.Proofs.YteigibncdbgpmaaGreatDoor
open Go.RowKit

theorem and30 (n : Int) : ∃ c : Int, bits .and .i64 n 1073741823 = c ∧ 0 ≤ c ∧ c ≤ 1073741823 := by
  refine ⟨_, rfl, ?_⟩
  have h : (BitVec.ofInt 64 n &&& BitVec.ofInt 64 1073741823).toNat ≤ 1073741823 := by
    rw [BitVec.toNat_and]
    exact Nat.le_trans Nat.and_le_right (by decide)
  show 0 ≤ IntKind.i64.wrap ((BitVec.ofInt 64 n &&& BitVec.ofInt 64 1073741823).toNat : Int) ∧ IntKind.i64.wrap ((BitVec.ofInt 64 n &&& BitVec.ofInt 64 1073741823).toNat : Int) ≤ 1073741823
  generalize (BitVec.ofInt 64 n &&& BitVec.ofInt 64 1073741823).toNat = c at *
  rw [show IntKind.i64.wrap (c : Int) = c from IntWalk.i64_in _ ⟨by omega, by omega⟩]
  omega
/-- The list, and the list that is turned, in memory of the call's own. -/
structure TuIn (w w2 wr : World) (v1 v3 : Value) (xs : List Rec) (qs : List (Rec × Value)) : Prop where
  a : Rcs w2 v1 xs
  o : Rown wr w2.heap.size v3 qs
  p : (qs.map (·.1)).Perm xs
  b2 : Below w2.heap.size w2 wr
  bw : Below w.heap.size w w2
/-- Both lists, as they are read. -/
def Tu2 (w wr : World) (v1 v3 : Value) (xs ys : List Rec) : Prop := Rcs wr v1 xs ∧ Rcs wr v3 ys ∧ Below w.heap.size w wr
theorem Tu2.on {w wr w' : World} {v1 v3 : Value} {xs ys : List Rec} (h : Tu2 w wr v1 v3 xs ys) (hb : Below wr.heap.size wr w') : Tu2 w w' v1 v3 xs ys := ⟨h.1.below hb, h.2.1.below hb, h.2.2.trans (hb.mono h.2.2.size)⟩
def TurnIn (w w2 wr : World) (v1 v3 : Value) (xs : List Rec) : Prop := ∃ qs, TuIn w w2 wr v1 v3 xs qs
set_option maxRecDepth 20000 in
set_option maxHeartbeats 8000000 in
theorem turned_any (HC : ClassC) (HO : OpenC) (HP : PrimC) (HF : FullC) (HK : CheckC) (v ut u : Value) (rs : List Rec) (ts cs : List Int) (w : World) (hg : Glob w) (hv : Rcs w v rs) (ht : Sk .i64 w ut ts) (hu : Sk .i32 w u cs) (htl : ts.length ≤ 1000000000) (hcl : cs.length ≤ 1000000000) : Calls Tryz.prog 7 #[v, ut, u] w (Tells w true) := by
  have KT := hide (told_any HC HO HP HF HK)
  have HG : Hid (∀ W, Below w.heap.size w W → Glob W) := fun W h => hg.on h
  clear hg
  have K1 := hide (few_any v rs 120 w hv (by omega))
  have K4 := hide HF
  have K5 := hide HK
  clear HC HO HP HF HK
  obtain ⟨ao, cap, rfl, h1, h2⟩ := hv.shape
  have hlen := hv.1
  have HR := hide (fun i hi => rune_of hu (i := i) hi)
  have HCS : Hid (∀ i, i < cs.length → ∀ W, Below w.heap.size w W → ∃ b off, (∃ c, u = .slice (some ⟨b, off, none⟩) cs.length c) ∧ W.cell? ⟨b, off + i, none⟩ = some (.int .i32 (cs.getD i 0))) := by
    intro i hi W hb
    obtain ⟨b, off, c, rfl, _, _, hc⟩ := hu.place (by omega)
    have h := hc i hi
    exact ⟨b, off, ⟨c, rfl⟩, by rw [hb.cell (lt_of_cell? h)]; exact h⟩
  have HTS : Hid (∀ i, i < ts.length → ∀ W, Below w.heap.size w W → ∃ b off, (∃ c, ut = .slice (some ⟨b, off, none⟩) ts.length c) ∧ W.cell? ⟨b, off + i, none⟩ = some (.int .i64 (ts.getD i 0))) := by
    intro i hi W hb
    obtain ⟨b, off, c, rfl, _, _, hc⟩ := ht.place (by omega)
    have h := hc i hi
    exact ⟨b, off, ⟨c, rfl⟩, by rw [hb.cell (lt_of_cell? h)]; exact h⟩
  obtain ⟨uo, ucap, rfl, u1, u2⟩ := hu.shape
  obtain ⟨to', tcap, rfl, t1, t2⟩ := ht.shape
  clear hu ht
  go_enter Tryz.func7, Tryz.ntmps7
  go_wp2_with fail
  refine (unhide K1).mono ?_
  rintro e1 w1 ⟨v1, ps, rfl, a1, a2, hb1⟩
  obtain ⟨m, m1, m3, rv, rl, ao1, cap1, rfl, mc⟩ := few_both hv rfl a1 a2 hb1
  have hxl : (rs.take 120).length = m := by
    obtain ⟨_, _, e, _, _⟩ := rv.shape
    simp at e
    simp
    omega
  have hx120 : (rs.take 120).take 120 = rs.take 120 := by rw [List.take_take]; simp
  clear K1 a1 a2 hv rl
  generalize rs.take 120 = xs at *
  have J5 := hide ((unhide K5) _ xs w1 ((unhide HG) _ hb1) rv)
  have HTU : Hid (∀ ys, (Cn.check xs).2 = 0 → xs.Perm ys → (Cn.check ys).2 = 0 ∧ ∀ c, Cn.full xs c = Cn.full ys c) := fun ys h hp => by
    obtain ⟨g1, g2⟩ := Cn.turned h hp
    exact ⟨g1, fun c => Cn.full_congr (fun c => g2 3 c (by decide)) c⟩
  have HRV := hide rv
  clear rv
  generalize hck : Cn.check xs = q at *
  obtain ⟨q1, q2⟩ := q
  have HCK := hide hck
  clear hck
  go_wp2_with fail
  refine (unhide J5).mono ?_
  rintro e2 w2 ⟨rfl, hb2⟩
  clear J5
  by_cases hq : q2 = 0
  · obtain rfl : q2 = 0 := hq
    have hB2 := bthen hb1 hb2
    have hrv2 := (unhide HRV).below hb2
    have J3 := hide (few_any _ xs 120 w2 hrv2 (by omega))
    rw [hx120] at J3
    have HRV2 := hide hrv2
    have HB2 := hide hB2
    clear HRV hrv2 hb1 hb2 hB2 hx120
    go_wp2_with fail
    refine (unhide J3).mono ?_
    rintro e3 w3 ⟨v3, ps3, rfl, a1, a2, hb3⟩
    have HT0 : Hid (TurnIn w w2 w3 (.slice ao1 m cap1) v3 xs) := ⟨ps3, unhide HRV2, a2, by rw [a1], hb3, unhide HB2⟩
    have hpl : ps3.length = m := by rw [← hxl, ← a1, List.length_map]
    obtain ⟨ao3, cap3, hv3, hc3⟩ : ∃ ao3 cap3, v3 = .slice ao3 m cap3 ∧ cap3 ≤ 9223372036854775807 := by
      rcases a2.1.2 with ⟨e, h0⟩ | ⟨g, cp, cur, e, _, _, _, hc, _⟩
      · exact ⟨none, 0, by rw [e, ← hpl, h0], by omega⟩
      · exact ⟨_, cp, by rw [e, hpl], by unfold maxLen at hc; omega⟩
    subst hv3
    clear J3 a1 a2 hb3 HRV2
    go_wp2
    go_loopw [11, 12, 13] (fun iv _ _ wr => ∃ i : Nat, iv = .int .i64 i ∧ i ≤ ts.length ∧ i ≤ 60 ∧ Hid (TurnIn w w2 wr (.slice ao1 m cap1) (.slice ao3 m cap3) xs)) (fun iv _ _ _ => 60 - (intOf iv).toNat)
    case atStart => exact ⟨0, rfl, by omega, by omega, HT0⟩
    case round =>
      clear HT0
      obtain ⟨i, rfl, hi1, hi2, HTI⟩ := hrel
      obtain ⟨qs, hT⟩ := unhide HTI
      have hql : qs.length = m := by rw [← hxl, ← hT.p.length_eq, List.length_map]
      have hwr : Below w.heap.size w wr := bthen (unhide HB2) hT.b2
      by_cases hc : i < ts.length ∧ i < 60 ∧ 1 < m
      · obtain ⟨hc1, hc2, hc3'⟩ := hc
        obtain ⟨b, off, ⟨c', he⟩, hc0⟩ := (unhide HTS) i hc1 wr hwr
        obtain ⟨rfl, rfl⟩ : to' = some ⟨b, off, none⟩ ∧ tcap = c' := by simpa using he
        obtain ⟨g, rfl⟩ : ∃ g, ao3 = some ⟨g, 0, none⟩ := by
          rcases hT.o.1.2 with ⟨e, h0⟩ | ⟨g, cp, cur, e, _⟩
          · omega
          · simp only [Value.slice.injEq] at e
            exact ⟨g, e.1⟩
        have hO : Rown wr w2.heap.size (.slice (some ⟨g, 0, none⟩) qs.length cap3) qs := hql ▸ hT.o
        have HT := hide hT
        clear hT HTI he
        generalize ts.getD i 0 = tv at *
        obtain ⟨z1, hz1, za0, za1⟩ := and30 tv
        obtain ⟨z2, hz2, zb0, zb1⟩ := and30 (tv / 1073741824)
        obtain ⟨A, hA, hAm⟩ : ∃ A : Nat, A < m ∧ z1.tmod (m : Int) = (A : Int) := by
          have h0 := Int.emod_nonneg z1 (show (m : Int) ≠ 0 by omega)
          have h1 := Int.emod_lt_of_pos z1 (show (0 : Int) < m by omega)
          exact ⟨(z1 % m).toNat, by omega, by rw [Int.tmod_eq_emod_of_nonneg za0]; omega⟩
        obtain ⟨Bn, hBn, hBm⟩ : ∃ Bn : Nat, Bn < m ∧ z2.tmod (m : Int) = (Bn : Int) := by
          have h0 := Int.emod_nonneg z2 (show (m : Int) ≠ 0 by omega)
          have h1 := Int.emod_lt_of_pos z2 (show (0 : Int) < m by omega)
          exact ⟨(z2 % m).toNat, by omega, by rw [Int.tmod_eq_emod_of_nonneg zb0]; omega⟩
        subst hql
        have HSW : Hid (∀ n, TurnIn w w2 (putR (putR (wr.drewN n) g (A * 8) qs[Bn]) g (Bn * 8) qs[A]) (.slice ao1 qs.length cap1) (.slice (some ⟨g, 0, none⟩) qs.length cap3) xs) := fun n => by
          have hb := drewB (w := wr) ⟨n, rfl⟩
          have hg := (hO.1.lt g rfl).1
          exact ⟨_, (unhide HT).a, by simpa using (hO.on7 hb).swap hA hBn, ((swap_perm hA hBn).map _).trans (unhide HT).p, putR_below (putR_below ((unhide HT).b2.trans (hb.mono (unhide HT).b2.size)) hg _) hg _, (unhide HT).bw⟩
        obtain ⟨rA, aoA, lnA, cA, eA, x0, x1, x2, x3, x4, x5, x6, x7, fz⟩ := hO.cells8 hA
        obtain ⟨rB, aoB, lnB, cB, eB, y0, y1, y2, y3, y4, y5, y6, y7, _⟩ := hO.cells8 hBn
        rw [eA, eB] at HSW
        have hmod1 : ¬ (qs.length : Int) = 0 := by omega
        have HO := hide hO
        clear hO HT eA eB K4 K5 HCS HTS HR HTU HCK HG KT hwr
        -- SWAP
        obtain ⟨cur, hh, hcs⟩ : ∃ cur, wr.heap[g]? = some (.cells cur 47 (0, 0)) ∧ qs.length * 8 ≤ cur.size := by
          rcases (unhide HO).1.2 with ⟨e, _⟩ | ⟨g', cp', cur, e, _, hh, hn, _, hsz, _⟩
          · cases e
          · simp only [Value.slice.injEq, Option.some.injEq, Addr.mk.injEq, and_true, true_and] at e
            obtain ⟨rfl, rfl⟩ := e
            exact ⟨cur, hh, by rw [hsz]; exact Nat.mul_le_mul_right 8 hn⟩
        have la := loadR (W := wr.drew) x0 x1 x2 x3 x4 x5 x6 x7
        have lb := loadR (W := wr.drew) y0 y1 y2 y3 y4 y5 y6 y7
        have s1 := storeR (W := wr.drew) (off := A * 8) hh (by omega) rB aoB lnB cB
        have s2 := storeR (off := Bn * 8) (putR_at (W := wr.drew) (off := A * 8) hh (rB, .slice aoB lnB cB)) (by rw [set8_size]; omega) rA aoA lnA cA
        have sw := (unhide HSW) 1
        change TurnIn w w2 (putR (putR wr.drew g (A * 8) (rB, .slice aoB lnB cB)) g (Bn * 8) (rA, .slice aoA lnA cA)) _ _ _ at sw
        clear HSW
        generalize putR (putR wr.drew g (A * 8) (rB, .slice aoB lnB cB)) g (Bn * 8) (rA, .slice aoA lnA cA) = V2 at *
        generalize putR wr.drew g (A * 8) (rB, .slice aoB lnB cB) = V1 at *
        have HALL : Hid (((Instr.loadAt 47 (.pointer (some ⟨g, A * 8, none⟩))).run Tryz.prog wr.drew = .ok (recV rA (.slice aoA lnA cA)) wr.drew ∧ (Instr.loadAt 47 (.pointer (some ⟨g, Bn * 8, none⟩))).run Tryz.prog wr.drew = .ok (recV rB (.slice aoB lnB cB)) wr.drew) ∧ ((Instr.storeAt 47 (.pointer (some ⟨g, A * 8, none⟩)) (recV rB (.slice aoB lnB cB))).run Tryz.prog wr.drew = .ok () V1 ∧ (Instr.storeAt 47 (.pointer (some ⟨g, Bn * 8, none⟩)) (recV rA (.slice aoA lnA cA))).run Tryz.prog V1 = .ok () V2) ∧ TurnIn w w2 V2 (.slice ao1 qs.length cap1) (.slice (some ⟨g, 0, none⟩) qs.length cap3) xs) := ⟨⟨la, lb⟩, ⟨s1, s2⟩, sw⟩
        clear la lb s1 s2 sw
        clear HO x0 x1 x2 x3 x4 x5 x6 x7 y0 y1 y2 y3 y4 y5 y6 y7 fz hh hcs
        go_wp2
        refine wp_region_any (by kernel_rfl) ?_
        change wpAny _ _ _ _ _ _ _ (World.drew _)
        refine wpAny_take (i := 0) (oi := { dst := some 63, op := Op.move (Operand.tmp 10), type := 22, pos := "law.go:106", after := #[], guard := none }) (v := .slice (some ⟨g, 0, none⟩) qs.length cap3) rfl (by kernel_rfl) (by kernel_rfl) (by kernel_rfl) (fun _ _ _ h => h) (Or.inl ⟨by rfl, ?_⟩) ?_
        · intro w; go_simp
        simp only [Act.put, List.setIfInBounds_toArray, List.set_cons_zero, List.set_cons_succ]
        refine wpAny_take (i := 1) (oi := { dst := some 64, op := Op.move (Operand.tmp 12), type := 3, pos := "law.go:106", after := #[], guard := none }) (v := .int .i64 (A : Int)) rfl (by kernel_rfl) (by kernel_rfl) (by kernel_rfl) (fun _ _ _ h => h) (Or.inl ⟨by rfl, ?_⟩) ?_
        · intro w; go_simp
        simp only [Act.put, List.setIfInBounds_toArray, List.set_cons_zero, List.set_cons_succ]
        refine wpAny_take (i := 2) (oi := { dst := some 65, op := Op.move (Operand.tmp 10), type := 22, pos := "law.go:106", after := #[{ on := 13, ground := Ground.gcOnly Departure.lateStores }], guard := none }) (v := .slice (some ⟨g, 0, none⟩) qs.length cap3) rfl (by kernel_rfl) (by kernel_rfl) (by kernel_rfl) (fun _ _ _ h => h) (Or.inl ⟨by rfl, ?_⟩) ?_
        · intro w; go_simp
        simp only [Act.put, List.setIfInBounds_toArray, List.set_cons_zero, List.set_cons_succ]
        refine wpAny_take (i := 3) (oi := { dst := some 66, op := Op.move (Operand.tmp 13), type := 3, pos := "law.go:106", after := #[{ on := 13, ground := Ground.gcOnly Departure.lateStores }], guard := none }) (v := .int .i64 (Bn : Int)) rfl (by kernel_rfl) (by kernel_rfl) (by kernel_rfl) (fun _ _ _ h => h) (Or.inl ⟨by rfl, ?_⟩) ?_
        · intro w; go_simp
        simp only [Act.put, List.setIfInBounds_toArray, List.set_cons_zero, List.set_cons_succ]
        refine wpAny_take (i := 4) (oi := { dst := some 67, op := Op.move (Operand.tmp 10), type := 22, pos := "law.go:106", after := #[], guard := none }) (v := .slice (some ⟨g, 0, none⟩) qs.length cap3) rfl (by kernel_rfl) (by kernel_rfl) (by kernel_rfl) (fun _ _ _ h => h) (Or.inl ⟨by rfl, ?_⟩) ?_
        · intro w; go_simp
        simp only [Act.put, List.setIfInBounds_toArray, List.set_cons_zero, List.set_cons_succ]
        refine wpAny_take (i := 5) (oi := { dst := some 68, op := Op.move (Operand.tmp 13), type := 3, pos := "law.go:106", after := #[], guard := none }) (v := .int .i64 (Bn : Int)) rfl (by kernel_rfl) (by kernel_rfl) (by kernel_rfl) (fun _ _ _ h => h) (Or.inl ⟨by rfl, ?_⟩) ?_
        · intro w; go_simp
        simp only [Act.put, List.setIfInBounds_toArray, List.set_cons_zero, List.set_cons_succ]
        refine wpAny_take (i := 6) (oi := { dst := some 69, op := Op.indexAddr 22 (Operand.tmp 67) (Operand.tmp 68), type := 0, pos := "law.go:106", after := #[{ on := 4, ground := Ground.data }, { on := 5, ground := Ground.data }], guard := none }) (v := .pointer (some ⟨g, Bn * 8, none⟩)) rfl (by kernel_rfl) (by kernel_rfl) (by kernel_rfl) (fun _ _ _ h => h) (Or.inl ⟨by rfl, ?_⟩) ?_
        · intro w; go_simp
        simp only [Act.put, List.setIfInBounds_toArray, List.set_cons_zero, List.set_cons_succ]
        refine wpAny_take (i := 8) (oi := { dst := some 71, op := Op.move (Operand.tmp 10), type := 22, pos := "law.go:106", after := #[], guard := none }) (v := .slice (some ⟨g, 0, none⟩) qs.length cap3) rfl (by kernel_rfl) (by kernel_rfl) (by kernel_rfl) (fun _ _ _ h => h) (Or.inl ⟨by rfl, ?_⟩) ?_
        · intro w; go_simp
        simp only [Act.put, List.setIfInBounds_toArray, List.set_cons_zero, List.set_cons_succ]
        refine wpAny_take (i := 9) (oi := { dst := some 72, op := Op.move (Operand.tmp 12), type := 3, pos := "law.go:106", after := #[], guard := none }) (v := .int .i64 (A : Int)) rfl (by kernel_rfl) (by kernel_rfl) (by kernel_rfl) (fun _ _ _ h => h) (Or.inl ⟨by rfl, ?_⟩) ?_
        · intro w; go_simp
        simp only [Act.put, List.setIfInBounds_toArray, List.set_cons_zero, List.set_cons_succ]
        refine wpAny_take (i := 10) (oi := { dst := some 73, op := Op.indexAddr 22 (Operand.tmp 71) (Operand.tmp 72), type := 0, pos := "law.go:106", after := #[{ on := 8, ground := Ground.data }, { on := 9, ground := Ground.data }], guard := none }) (v := .pointer (some ⟨g, A * 8, none⟩)) rfl (by kernel_rfl) (by kernel_rfl) (by kernel_rfl) (fun _ _ _ h => h) (Or.inl ⟨by rfl, ?_⟩) ?_
        · intro w; go_simp
        simp only [Act.put, List.setIfInBounds_toArray, List.set_cons_zero, List.set_cons_succ]
        refine wpAny_ready (rs := [7, 11]) (by kernel_rfl) (by simp) ?_
        refine AllReady.cons (o := { dst := some 70, op := Op.load 47 (Operand.tmp 69), type := 47, pos := "law.go:106", after := #[{ on := 6, ground := Ground.data }], guard := none }) rfl (fun K hK => ?_) (AllReady.cons (o := { dst := some 74, op := Op.load 47 (Operand.tmp 73), type := 47, pos := "law.go:106", after := #[{ on := 10, ground := Ground.data }], guard := none }) rfl (fun K hK => ?_) AllReady.nil)
        · refine step_load7 (by rfl) 47 (.tmp 69) (by rfl) _ _ (by rfl) (unhide HALL).1.2 ?_
          refine hK _ _ ?_
          clear hK K
          simp only [Act.put, List.setIfInBounds_toArray, List.set_cons_zero, List.set_cons_succ]
          refine wpAny_ready (rs := [11]) (by kernel_rfl) (by simp) ?_
          refine AllReady.cons (o := { dst := some 74, op := Op.load 47 (Operand.tmp 73), type := 47, pos := "law.go:106", after := #[{ on := 10, ground := Ground.data }], guard := none }) rfl (fun K hK => ?_) AllReady.nil
          refine step_load7 (by rfl) 47 (.tmp 73) (by rfl) _ _ (by rfl) (unhide HALL).1.1 ?_
          refine hK _ _ ?_
          clear hK K
          simp only [Act.put, List.setIfInBounds_toArray, List.set_cons_zero, List.set_cons_succ]
          refine wpAny_take (i := 12) (oi := { dst := some 75, op := Op.indexAddr 22 (Operand.tmp 63) (Operand.tmp 64), type := 0, pos := "law.go:106", after := #[{ on := 0, ground := Ground.data }, { on := 1, ground := Ground.data }, { on := 0, ground := Ground.phase }, { on := 1, ground := Ground.phase }, { on := 2, ground := Ground.textOnly Departure.lateStores }, { on := 3, ground := Ground.textOnly Departure.lateStores }, { on := 4, ground := Ground.phase }, { on := 5, ground := Ground.phase }, { on := 6, ground := Ground.phase }, { on := 7, ground := Ground.phase }, { on := 8, ground := Ground.textOnly Departure.lateStores }, { on := 9, ground := Ground.textOnly Departure.lateStores }, { on := 10, ground := Ground.textOnly Departure.lateStoresUnsure }, { on := 11, ground := Ground.phase }], guard := none }) (v := .pointer (some ⟨g, A * 8, none⟩)) rfl (by kernel_rfl) (by kernel_rfl) (by kernel_rfl) (fun _ _ _ h => h) (Or.inl ⟨by rfl, ?_⟩) ?_
          · intro w; go_simp
          simp only [Act.put, List.setIfInBounds_toArray, List.set_cons_zero, List.set_cons_succ]
          refine wpAny_ready (rs := [13]) (by kernel_rfl) (by simp) ?_
          refine AllReady.cons (o := { dst := none, op := Op.store 47 (Operand.tmp 75) (Operand.tmp 70), type := 0, pos := "law.go:106", after := #[{ on := 12, ground := Ground.data }, { on := 7, ground := Ground.data }, { on := 0, ground := Ground.phase }, { on := 1, ground := Ground.phase }, { on := 2, ground := Ground.textOnly Departure.lateStores }, { on := 3, ground := Ground.textOnly Departure.lateStores }, { on := 4, ground := Ground.phase }, { on := 5, ground := Ground.phase }, { on := 6, ground := Ground.phase }, { on := 7, ground := Ground.phase }, { on := 8, ground := Ground.textOnly Departure.lateStores }, { on := 9, ground := Ground.textOnly Departure.lateStores }, { on := 10, ground := Ground.textOnly Departure.lateStoresUnsure }, { on := 11, ground := Ground.phase }], guard := none }) rfl (fun K hK => ?_) AllReady.nil
          refine step_store7 (by rfl) 47 (.tmp 75) (.tmp 70) (by rfl) (.pointer (some ⟨g, A * 8, none⟩)) (recV rB (.slice aoB lnB cB)) (by rfl) (by rfl) (unhide HALL).2.1.1 ?_
          refine hK _ _ ?_
          clear hK K
          simp only [Act.put]
          refine wpAny_take (i := 14) (oi := { dst := some 76, op := Op.indexAddr 22 (Operand.tmp 65) (Operand.tmp 66), type := 0, pos := "law.go:106", after := #[{ on := 2, ground := Ground.data }, { on := 3, ground := Ground.data }, { on := 0, ground := Ground.phase }, { on := 1, ground := Ground.phase }, { on := 2, ground := Ground.phase }, { on := 3, ground := Ground.phase }, { on := 4, ground := Ground.phase }, { on := 5, ground := Ground.phase }, { on := 6, ground := Ground.phase }, { on := 7, ground := Ground.phase }, { on := 8, ground := Ground.phase }, { on := 9, ground := Ground.phase }, { on := 10, ground := Ground.phase }, { on := 11, ground := Ground.phase }, { on := 12, ground := Ground.phase }, { on := 13, ground := Ground.phase }], guard := none }) (v := .pointer (some ⟨g, Bn * 8, none⟩)) rfl (by kernel_rfl) (by kernel_rfl) (by kernel_rfl) (fun _ _ _ h => h) (Or.inl ⟨by rfl, ?_⟩) ?_
          · intro w; go_simp
          simp only [Act.put, List.setIfInBounds_toArray, List.set_cons_zero, List.set_cons_succ]
          refine wpAny_ready (rs := [15]) (by kernel_rfl) (by simp) ?_
          refine AllReady.cons (o := { dst := none, op := Op.store 47 (Operand.tmp 76) (Operand.tmp 74), type := 0, pos := "law.go:106", after := #[{ on := 14, ground := Ground.data }, { on := 11, ground := Ground.data }, { on := 13, ground := Ground.chain }, { on := 0, ground := Ground.phase }, { on := 1, ground := Ground.phase }, { on := 2, ground := Ground.phase }, { on := 3, ground := Ground.phase }, { on := 4, ground := Ground.phase }, { on := 5, ground := Ground.phase }, { on := 6, ground := Ground.phase }, { on := 7, ground := Ground.phase }, { on := 8, ground := Ground.phase }, { on := 9, ground := Ground.phase }, { on := 10, ground := Ground.phase }, { on := 11, ground := Ground.phase }, { on := 12, ground := Ground.phase }, { on := 13, ground := Ground.phase }], guard := none }) rfl (fun K hK => ?_) AllReady.nil
          refine step_store7 (by rfl) 47 (.tmp 76) (.tmp 74) (by rfl) (.pointer (some ⟨g, Bn * 8, none⟩)) (recV rA (.slice aoA lnA cA)) (by rfl) (by rfl) (unhide HALL).2.1.2 ?_
          refine hK _ _ ?_
          clear hK K
          simp only [Act.put]
          refine wpAny_done (by kernel_rfl) ?_ _
          go_wp2
          go_roundw
          case rel => exact ⟨i + 1, by go_num, by omega, by omega, (unhide HALL).2.2⟩
          case measure => simp [intOf]; omega
        · refine step_load7 (by rfl) 47 (.tmp 73) (by rfl) _ _ (by rfl) (unhide HALL).1.1 ?_
          refine hK _ _ ?_
          clear hK K
          simp only [Act.put, List.setIfInBounds_toArray, List.set_cons_zero, List.set_cons_succ]
          refine wpAny_ready (rs := [7]) (by kernel_rfl) (by simp) ?_
          refine AllReady.cons (o := { dst := some 70, op := Op.load 47 (Operand.tmp 69), type := 47, pos := "law.go:106", after := #[{ on := 6, ground := Ground.data }], guard := none }) rfl (fun K hK => ?_) AllReady.nil
          refine step_load7 (by rfl) 47 (.tmp 69) (by rfl) _ _ (by rfl) (unhide HALL).1.2 ?_
          refine hK _ _ ?_
          clear hK K
          simp only [Act.put, List.setIfInBounds_toArray, List.set_cons_zero, List.set_cons_succ]
          refine wpAny_take (i := 12) (oi := { dst := some 75, op := Op.indexAddr 22 (Operand.tmp 63) (Operand.tmp 64), type := 0, pos := "law.go:106", after := #[{ on := 0, ground := Ground.data }, { on := 1, ground := Ground.data }, { on := 0, ground := Ground.phase }, { on := 1, ground := Ground.phase }, { on := 2, ground := Ground.textOnly Departure.lateStores }, { on := 3, ground := Ground.textOnly Departure.lateStores }, { on := 4, ground := Ground.phase }, { on := 5, ground := Ground.phase }, { on := 6, ground := Ground.phase }, { on := 7, ground := Ground.phase }, { on := 8, ground := Ground.textOnly Departure.lateStores }, { on := 9, ground := Ground.textOnly Departure.lateStores }, { on := 10, ground := Ground.textOnly Departure.lateStoresUnsure }, { on := 11, ground := Ground.phase }], guard := none }) (v := .pointer (some ⟨g, A * 8, none⟩)) rfl (by kernel_rfl) (by kernel_rfl) (by kernel_rfl) (fun _ _ _ h => h) (Or.inl ⟨by rfl, ?_⟩) ?_
          · intro w; go_simp
          simp only [Act.put, List.setIfInBounds_toArray, List.set_cons_zero, List.set_cons_succ]
          refine wpAny_ready (rs := [13]) (by kernel_rfl) (by simp) ?_
          refine AllReady.cons (o := { dst := none, op := Op.store 47 (Operand.tmp 75) (Operand.tmp 70), type := 0, pos := "law.go:106", after := #[{ on := 12, ground := Ground.data }, { on := 7, ground := Ground.data }, { on := 0, ground := Ground.phase }, { on := 1, ground := Ground.phase }, { on := 2, ground := Ground.textOnly Departure.lateStores }, { on := 3, ground := Ground.textOnly Departure.lateStores }, { on := 4, ground := Ground.phase }, { on := 5, ground := Ground.phase }, { on := 6, ground := Ground.phase }, { on := 7, ground := Ground.phase }, { on := 8, ground := Ground.textOnly Departure.lateStores }, { on := 9, ground := Ground.textOnly Departure.lateStores }, { on := 10, ground := Ground.textOnly Departure.lateStoresUnsure }, { on := 11, ground := Ground.phase }], guard := none }) rfl (fun K hK => ?_) AllReady.nil
          refine step_store7 (by rfl) 47 (.tmp 75) (.tmp 70) (by rfl) (.pointer (some ⟨g, A * 8, none⟩)) (recV rB (.slice aoB lnB cB)) (by rfl) (by rfl) (unhide HALL).2.1.1 ?_
          refine hK _ _ ?_
          clear hK K
          simp only [Act.put]
          refine wpAny_take (i := 14) (oi := { dst := some 76, op := Op.indexAddr 22 (Operand.tmp 65) (Operand.tmp 66), type := 0, pos := "law.go:106", after := #[{ on := 2, ground := Ground.data }, { on := 3, ground := Ground.data }, { on := 0, ground := Ground.phase }, { on := 1, ground := Ground.phase }, { on := 2, ground := Ground.phase }, { on := 3, ground := Ground.phase }, { on := 4, ground := Ground.phase }, { on := 5, ground := Ground.phase }, { on := 6, ground := Ground.phase }, { on := 7, ground := Ground.phase }, { on := 8, ground := Ground.phase }, { on := 9, ground := Ground.phase }, { on := 10, ground := Ground.phase }, { on := 11, ground := Ground.phase }, { on := 12, ground := Ground.phase }, { on := 13, ground := Ground.phase }], guard := none }) (v := .pointer (some ⟨g, Bn * 8, none⟩)) rfl (by kernel_rfl) (by kernel_rfl) (by kernel_rfl) (fun _ _ _ h => h) (Or.inl ⟨by rfl, ?_⟩) ?_
          · intro w; go_simp
          simp only [Act.put, List.setIfInBounds_toArray, List.set_cons_zero, List.set_cons_succ]
          refine wpAny_ready (rs := [15]) (by kernel_rfl) (by simp) ?_
          refine AllReady.cons (o := { dst := none, op := Op.store 47 (Operand.tmp 76) (Operand.tmp 74), type := 0, pos := "law.go:106", after := #[{ on := 14, ground := Ground.data }, { on := 11, ground := Ground.data }, { on := 13, ground := Ground.chain }, { on := 0, ground := Ground.phase }, { on := 1, ground := Ground.phase }, { on := 2, ground := Ground.phase }, { on := 3, ground := Ground.phase }, { on := 4, ground := Ground.phase }, { on := 5, ground := Ground.phase }, { on := 6, ground := Ground.phase }, { on := 7, ground := Ground.phase }, { on := 8, ground := Ground.phase }, { on := 9, ground := Ground.phase }, { on := 10, ground := Ground.phase }, { on := 11, ground := Ground.phase }, { on := 12, ground := Ground.phase }, { on := 13, ground := Ground.phase }], guard := none }) rfl (fun K hK => ?_) AllReady.nil
          refine step_store7 (by rfl) 47 (.tmp 76) (.tmp 74) (by rfl) (.pointer (some ⟨g, Bn * 8, none⟩)) (recV rA (.slice aoA lnA cA)) (by rfl) (by rfl) (unhide HALL).2.1.2 ?_
          refine hK _ _ ?_
          clear hK K
          simp only [Act.put]
          refine wpAny_done (by kernel_rfl) ?_ _
          go_wp2
          go_roundw
          case rel => exact ⟨i + 1, by go_num, by omega, by omega, (unhide HALL).2.2⟩
          case measure => simp [intOf]; omega
      · have hex : ¬ i < ts.length ∨ (i < ts.length ∧ ¬ i < 60) ∨ (i < ts.length ∧ i < 60 ∧ ¬ 1 < m) := by omega
        have hrc3 : Rcs wr (.slice ao3 m cap3) (qs.map (·.1)) := hT.o.rcs (by omega) (fun p hp => hT.a.2.1 _ (hT.p.mem_iff.1 (List.mem_map.2 ⟨p, hp, rfl⟩)))
        obtain ⟨hcy, hfy⟩ := (unhide HTU) (qs.map (·.1)) (by first | rfl | trivial) hT.p.symm
        have J6 := hide ((unhide K5) _ (qs.map (·.1)) wr ((unhide HG) _ hwr) hrc3)
        have HT2 : Hid (Tu2 w wr (.slice ao1 m cap1) (.slice ao3 m cap3) xs (qs.map (·.1))) := ⟨hT.a.below hT.b2, hrc3, hwr⟩
        have HFY := hide hfy
        clear hc HTI HTS HTU hT hrc3 K5 hfy HCK
        generalize qs.map (·.1) = ys at *
        generalize Cn.check ys = pq at *
        obtain ⟨p1, p2⟩ := pq
        simp only at hcy
        subst hcy
        rcases hex with hex | ⟨hex, hex2⟩ | ⟨hex, hex2, hex3⟩
        all_goals
          go_wp2_with fail
          refine (unhide J6).mono ?_
          rintro e5 w5 ⟨rfl, hb5⟩
          have HT5 := hide ((unhide HT2).on hb5)
          clear J6 hb5 HT2
          go_wp2
          go_loopw [14, 15, 16, 17, 18] (fun iv _ _ _ _ wr => ∃ j : Nat, iv = .int .i64 j ∧ j ≤ cs.length ∧ j ≤ 30 ∧ Hid (Tu2 w wr (.slice ao1 m cap1) (.slice ao3 m cap3) xs ys)) (fun iv _ _ _ _ _ => 30 - (intOf iv).toNat)
          case atStart => exact ⟨0, rfl, by omega, by omega, HT5⟩
          case round =>
            clear HT5
            obtain ⟨j, rfl, hj1, hj2, HT6⟩ := hrel
            by_cases hlt : j < cs.length ∧ j < 30
            · obtain ⟨hlt1, hlt2⟩ := hlt
              have hrn := (unhide HR) j hlt1
              obtain ⟨b, off, ⟨c', he⟩, hc0⟩ := (unhide HCS) j hlt1 wr (unhide HT6).2.2
              obtain ⟨rfl, rfl⟩ : uo = some ⟨b, off, none⟩ ∧ ucap = c' := by simpa using he
              have HC2 : Hid (∀ W, Below wr.heap.size wr W → W.cell? ⟨b, off + j, none⟩ = some (.int .i32 (cs.getD j 0))) := fun W hb => by rw [hb.cell (lt_of_cell? hc0)]; exact hc0
              have J4 := hide ((unhide K4) _ _ (cs.getD j 0) wr ((unhide HG) _ (unhide HT6).2.2) (unhide HT6).1 hrn)
              have J7 : Hid (∀ W, Below wr.heap.size wr W → Calls Tryz.prog 19 #[.slice ao3 m cap3, .int .i32 (cs.getD j 0)] W (FullB W (Cn.full ys (cs.getD j 0)))) := fun W hb => (unhide K4) _ _ _ W ((unhide HG) _ ((unhide HT6).on hb).2.2) ((unhide HT6).on hb).2.1 hrn
              rw [← (unhide HFY) (cs.getD j 0)] at J7
              have hfl := Cn.full_len xs (cs.getD j 0)
              clear he hrn
              generalize Cn.full xs (cs.getD j 0) = fr at *
              generalize cs.getD j 0 = c at *
              obtain ⟨zs, er⟩ := fr
              go_wp2_with fail
              refine (unhide J4).mono ?_
              rintro e6 w6 ⟨vx, rfl, okx, hb6⟩
              have hc6 := (unhide HC2) w6 hb6
              have J8 := hide ((unhide J7) w6 hb6)
              obtain ⟨xo, xcap, hxv, hx1, hx2⟩ := okx.sk.shape
              subst hxv
              have HOKX := hide okx
              clear J4 J7 hc0 HC2 okx
              go_wp2_with fail
              refine (unhide J8).mono ?_
              rintro e7 w7 ⟨vy, rfl, oky, hb7⟩
              obtain ⟨yo, ycap, hyv, hy1, hy2⟩ := oky.sk.shape
              subst hyv
              have JS := hide (same3_eq _ _ zs w7 ((unhide HOKX).below hb7).sk oky.sk (by show zs.length ≤ _; have : zs.length ≤ 32 := hfl; omega))
              have hB7 := bthen hb6 hb7
              clear J8 HOKX oky hc6 hb6 hb7
              go_wp2_with fail
              refine (unhide JS).mono ?_
              rintro e8 w8 ⟨rfl, hd8⟩
              have HT8 := hide ((unhide HT6).on (bthen hB7 (drewB hd8)))
              clear JS hB7 hd8 HT6
              go_wp2
              go_roundw
              case rel => exact ⟨j + 1, by go_num, by omega, by omega, HT8⟩
              case measure => simp [intOf]; omega
            · have hexj : ¬ j < cs.length ∨ (j < cs.length ∧ ¬ j < 30) := by omega
              have hB6 := (unhide HT6).2.2
              have J9 := hide ((unhide KT) wr ((unhide HG) _ hB6))
              clear hlt HT6 K4 HCS HR HFY KT HG
              rcases hexj with hexj | ⟨hexj, hexj2⟩
              all_goals
                go_wp2_with fail
                refine (unhide J9).mono ?_
                rintro e9 w9 ⟨rfl, hb9⟩
                have HF : Tells w true (.returned (.bool true)) w9 := ⟨rfl, bthen hB6 hb9⟩
                clear J9 hb9 hB6
                go_wp2
                go_ret
                exact HF
  · have hqb : (q2 != 0) = true := by simp [hq]
    have J9 := hide ((unhide KT) w2 ((unhide HG) _ (bthen hb1 hb2)))
    have hB2 := bthen hb1 hb2
    clear KT HCK HTU HRV hb1 hb2 hq
    go_wp2_with fail
    refine (unhide J9).mono ?_
    rintro e9 w9 ⟨rfl, hb9⟩
    have HF : Tells w true (.returned (.bool true)) w9 := ⟨rfl, bthen hB2 hb9⟩
    clear J9 hb9 hB2
    go_wp2
    go_ret
    exact HF
end Go.Proofs.YteigibncdbgpmaaGreatDoor
