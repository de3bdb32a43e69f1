/- The map of pairs; pairOf. -/
import Derived.Test.YteigibncdbgpmaaGreatDoorCcM7
import Derived.Test.YteigibncdbgpmaaGreatDoorTbT7
namespace Go.Proofs.YteigibncdbgpmaaGreatDoor
open Go.RowKit Go.MapKept Go.WideMaps
open Go.ChangeMaps (setBlock)

theorem pairLaw2 : KeyLaw Tryz.prog 92 := deep_law_laid laidOut7 (m := 3) (by decide) (of_decide_eq_true (by kernel_rfl)) (by kernel_rfl) (by kernel_rfl)
def pk2 (a b : Int) : Value := .agg #[.int .i32 a, .int .i32 b]
theorem cellsPk2 : Tryz.prog.cellsOf 92 = 2 := by kernel_rfl
theorem cellsRn : Tryz.prog.cellsOf 21 = 1 := by kernel_rfl
theorem keyTypePk2 : Tryz.prog.keyType 92 = true := by kernel_rfl
theorem keyLits_rn {a : Int} (h : Rune a) (D : Nat) : Tryz.prog.keyLits (D + 1) 21 [.int .i32 a] = some [.int .i32 a] := by
  rw [Program.keyLits.eq_def]
  simp only [Tryz.underlying21]
  have hw : (Lit.int .i32 a).wf = true := by
    unfold Rune at h
    simp [Lit.wf, IntKind.min, IntKind.max, IntKind.signed, IntKind.bits]; omega
  rw [if_pos ⟨trivial, hw⟩]
theorem keyLits_pk2 {a b : Int} (ha : Rune a) (hb : Rune b) (D : Nat) : Tryz.prog.keyLits (D + 2) 92 [.int .i32 a, .int .i32 b] = some [.int .i32 a, .int .i32 b] := by
  rw [Program.keyLits.eq_def]
  simp only [Tryz.underlying92, cellsPk2, cellsRn]
  rw [if_pos (show [Value.int .i32 a, Value.int .i32 b].length = 2 from rfl)]
  have e : List.range 2 = [0, 1] := rfl
  rw [e]
  simp [List.mapM_cons, keyLits_rn ha D, keyLits_rn hb D]
theorem pk2_key {a b : Int} (ha : Rune a) (hb : Rune b) : ∃ l, keyOf Tryz.prog 92 (pk2 a b) = some l := by
  have hf : (pk2 a b).formed Tryz.prog 92 = true := by
    simp [pk2, Value.formed, Tryz.underlying92, cellsPk2]
  obtain ⟨n, hn⟩ : ∃ n, Tryz.prog.types.size + 1 = n + 2 := ⟨Tryz.prog.types.size - 1, by have : 0 < Tryz.prog.types.size := of_decide_eq_true (by kernel_rfl); omega⟩
  refine ⟨.string (keyBytes [.int .i32 a, .int .i32 b]), ?_⟩
  unfold keyOf
  simp only [Tryz.underlying92, keyTypePk2, hf, Bool.and_self, if_true, hn]
  show (Tryz.prog.keyLits (n + 2) 92 [.int .i32 a, .int .i32 b]).map _ = _
  rw [keyLits_pk2 ha hb n]
  rfl
theorem pk2_inj {a b a' b' : Int} (h : pk2 a b = pk2 a' b') : a = a' ∧ b = b' := by
  unfold pk2 at h
  simpa using h
/-- Where each pair was met first. -/
structure PObj (es : Array MapEntry) (clock : Nat) (c : Int → Int → Option Int) : Prop where
  st : Stamped es clock
  keys : ∀ x ∈ es.toList, ∃ a b n, x.key = pk2 a b ∧ x.val = .int .i64 n ∧ c a b = some n ∧ Rune a ∧ Rune b
  none : ∀ a b, (∀ x ∈ es.toList, x.key ≠ pk2 a b) → c a b = none
def PAt (w : World) (r : Nat) (c : Int → Int → Option Int) : Prop := ∃ es clock, w.heap[r]? = some (.map es clock) ∧ PObj es clock c
theorem PObj.ks {es : Array MapEntry} {clock : Nat} {c : Int → Int → Option Int} (h : PObj es clock c) : ∀ x ∈ es.toList, ∃ l, keyOf Tryz.prog 92 x.key = some l := fun x hx => by
  obtain ⟨a, b, n, e, _, _, ha, hb⟩ := h.keys x hx
  rw [e]
  exact pk2_key ha hb
theorem pempty : PObj #[] 0 (fun _ _ => none) := ⟨⟨fun x hx => by simp at hx, by simp, by simp⟩, fun x hx => by simp at hx, fun _ _ _ => rfl⟩
theorem look_ok {w : World} {r : Nat} {c : Int → Int → Option Int} (h : PAt w r c) {a b : Int} (ha : Rune a) (hb' : Rune b) :
    (Instr.lookup 62 (.map (some r)) (pk2 a b) true).run Tryz.prog w = .ok (.tuple #[.int .i64 ((c a b).getD 0), .bool (c a b).isSome]) w ∧ (Instr.lookup 62 (.map (some r)) (pk2 a b) false).run Tryz.prog w = .ok (.int .i64 ((c a b).getD 0)) w := by
  obtain ⟨es, clock, hb, h⟩ := h
  obtain ⟨l, hl⟩ := pk2_key ha hb'
  rcases pairLaw2.find w hl es.toList h.ks with ⟨h1, h2⟩ | ⟨j, e0, h1, h2, h3⟩
  · rw [h.none a b h2]
    refine ⟨?_, ?_⟩
    · simp [Instr.lookup, run_underlying Tryz.underlying62, MapKept.run_getObj_map hb, pairLaw2.check w _ hl, h1, Result.andThen]
    · simp [Instr.lookup, run_underlying Tryz.underlying62, MapKept.run_getObj_map hb, pairLaw2.check w _ hl, h1, Result.andThen]
  · obtain ⟨a', b', n, e1, e2, e3, _, _⟩ := h.keys e0 (List.mem_of_getElem? h2)
    obtain ⟨rfl, rfl⟩ := pk2_inj (e1.symm.trans h3)
    rw [e3]
    refine ⟨?_, ?_⟩
    · simp [Instr.lookup, run_underlying Tryz.underlying62, MapKept.run_getObj_map hb, pairLaw2.check w _ hl, h1, Result.andThen, e2]
    · simp [Instr.lookup, run_underlying Tryz.underlying62, MapKept.run_getObj_map hb, pairLaw2.check w _ hl, h1, Result.andThen, e2]
def setP (c : Int → Int → Option Int) (a b n : Int) : Int → Int → Option Int := fun x y => if x = a ∧ y = b then some n else c x y
theorem run_update {w : World} {r : Nat} {c : Int → Int → Option Int} (h : PAt w r c) {a b : Int} (ha : Rune a) (hb' : Rune b) (hn : c a b = none) (n : Int) :
    ∃ es' clock', (Instr.mapUpdate 62 (.map (some r)) (pk2 a b) (.int .i64 n)).run Tryz.prog w = .ok () (setBlock w r (.map es' clock')) ∧ PObj es' clock' (setP c a b n) := by
  obtain ⟨es, clock, hb, h⟩ := h
  obtain ⟨l, hl⟩ := pk2_key ha hb'
  rcases pairLaw2.find w hl es.toList h.ks with ⟨h1, h2⟩ | ⟨j, e0, h1, h2, h3⟩
  · refine ⟨es.push ⟨pk2 a b, .int .i64 n, clock⟩, clock + 1, ?_, ⟨stamped_push h.st h2, fun x hx => ?_, fun a' b' hn' => ?_⟩⟩
    · simp [Instr.mapUpdate, run_underlying Tryz.underlying62, MapKept.run_getObj_map hb, pairLaw2.check w false hl, h1, MapKept.run_setObj_map _ hb, Result.andThen, setBlock]
    · simp only [Array.toList_push, List.mem_append, List.mem_singleton] at hx
      rcases hx with hx | rfl
      · obtain ⟨a', b', m, e1, e2, e3, e4⟩ := h.keys x hx
        refine ⟨a', b', m, e1, e2, ?_, e4⟩
        unfold setP
        rw [if_neg, e3]
        rintro ⟨rfl, rfl⟩
        rw [hn] at e3; cases e3
      · exact ⟨a, b, n, rfl, rfl, by unfold setP; rw [if_pos ⟨rfl, rfl⟩], ha, hb'⟩
    · unfold setP
      rw [if_neg]
      · exact h.none a' b' fun x hx => hn' x (by simp [hx])
      · rintro ⟨rfl, rfl⟩
        exact hn' ⟨pk2 a' b', .int .i64 n, clock⟩ (by simp) rfl
  · obtain ⟨a', b', m, e1, e2, e3, _, _⟩ := h.keys e0 (List.mem_of_getElem? h2)
    obtain ⟨rfl, rfl⟩ := pk2_inj (e1.symm.trans h3)
    rw [hn] at e3; cases e3
set_option maxRecDepth 8000 in
set_option maxHeartbeats 2000000 in
theorem pairOf_any (r : Rec) (vt : Value) (w : World) (hv : Sk .i32 w vt r.to) (h2 : r.to.length = 2) : Calls Tryz.prog 59 #[recV r vt] w fun e w' => e = .returned (pk2 (r.to.getD 0 0) (r.to.getD 1 0)) ∧ Below w.heap.size w w' := by
  obtain ⟨b, off, cap, rfl, _, hc, hcell⟩ := hv.place (by omega)
  have y0 := hcell 0 (by omega)
  have y1 := hcell 1 (by omega)
  rw [Nat.add_zero] at y0
  have hlt := lt_of_cell? y0
  have Y0 : ∀ W, Below w.heap.size w W → W.cell? ⟨b, off, none⟩ = some (.int .i32 (r.to.getD 0 0)) := fun W h => by rw [h.cell hlt]; exact y0
  have Y1 : ∀ W, Below w.heap.size w W → W.cell? ⟨b, off + 1, none⟩ = some (.int .i32 (r.to.getD 1 0)) := fun W h => by rw [h.cell hlt]; exact y1
  have hB : Below w.heap.size w ((w.alloc (.cells #[.int .i64 r.kind, .int .i64 r.lo, .int .i64 r.hi, .int .i64 r.n, .slice (some ⟨b, off, none⟩) 2 cap, .string r.name, .string r.other, .float .f64 r.wt] 47)).alloc (.cells #[.int .i32 0, .int .i32 0] 92)) := ((Below.refl _ _).alloc (Nat.le_refl _) _).alloc (by simp) _
  have z0 := Y0 _ hB
  have z1 := Y1 _ hB
  rw [h2]
  unfold recV pk2
  clear hv hcell Y0 Y1 y0 y1 hB
  generalize r.to.getD 0 0 = p at *
  generalize r.to.getD 1 0 = q at *
  go_enter Tryz.func59, Tryz.ntmps59
  go_wp2
  go_region
  go_wp2
  go_returns
  exact ⟨rfl, (((Below.refl _ _).alloc (Nat.le_refl _) _).alloc (by simp) _).trans ((drewB ⟨1, rfl⟩).mono (by simp; omega))⟩
end Go.Proofs.YteigibncdbgpmaaGreatDoor
