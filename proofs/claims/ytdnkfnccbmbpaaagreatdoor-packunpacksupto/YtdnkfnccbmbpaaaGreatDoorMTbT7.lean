/- The map of mixes that were met. -/
import Derived.Test.YtdnkfnccbmbpaaaGreatDoorGu8
import Derived.DeepKeys4
import Derived.WideKeyEntry
namespace Go.Proofs.YtdnkfnccbmbpaaaGreatDoor
open Go.RowKit Go.MapKept Go.WideMaps
open Go.ChangeMaps (setBlock)
open Go.WideElems (findIdx_arr findIdx_born)

theorem laidOut7 : laidOutB Tryz.prog = true := by kernel_rfl
theorem pairLaw : KeyLaw Tryz.prog 139 := deep_law_laid laidOut7 (m := 3) (by decide) (of_decide_eq_true (by kernel_rfl)) (by kernel_rfl) (by kernel_rfl)
def pk (a b : ByteArray) : Value := .agg #[.string a, .string b]
theorem cellsPk : Tryz.prog.cellsOf 139 = 2 := by kernel_rfl
theorem cellsSt : Tryz.prog.cellsOf 9 = 1 := by kernel_rfl
theorem keyTypePk : Tryz.prog.keyType 139 = true := by kernel_rfl
/-- A short text. -/
def Sh (a : ByteArray) : Prop := a.size ≤ 1000
theorem keyLits_str {a : ByteArray} (h : Sh a) (D : Nat) : Tryz.prog.keyLits (D + 1) 9 [.string a] = some [.string a.data.toList] := by
  rw [Program.keyLits.eq_def]
  simp only [Tryz.underlying9]
  rw [if_pos (by unfold Sh at h; unfold maxLen; omega)]
theorem keyLits_pk {a b : ByteArray} (ha : Sh a) (hb : Sh b) (D : Nat) : Tryz.prog.keyLits (D + 2) 139 [.string a, .string b] = some [.string a.data.toList, .string b.data.toList] := by
  rw [Program.keyLits.eq_def]
  simp only [Tryz.underlying139, cellsPk, cellsSt]
  rw [if_pos (show [Value.string a, Value.string b].length = 2 from rfl)]
  have e : List.range 2 = [0, 1] := rfl
  rw [e]
  simp [List.mapM_cons, keyLits_str ha D, keyLits_str hb D]
theorem pk_key {a b : ByteArray} (ha : Sh a) (hb : Sh b) : ∃ l, keyOf Tryz.prog 139 (pk a b) = some l := by
  have hf : (pk a b).formed Tryz.prog 139 = true := by
    simp [pk, Value.formed, Tryz.underlying139, cellsPk]
  obtain ⟨n, hn⟩ : ∃ n, Tryz.prog.types.size + 1 = n + 2 := ⟨Tryz.prog.types.size - 1, by have : 0 < Tryz.prog.types.size := of_decide_eq_true (by kernel_rfl); omega⟩
  refine ⟨.string (keyBytes [.string a.data.toList, .string b.data.toList]), ?_⟩
  unfold keyOf
  simp only [Tryz.underlying139, keyTypePk, hf, Bool.and_self, if_true, hn]
  show (Tryz.prog.keyLits (n + 2) 139 [.string a, .string b]).map _ = _
  rw [keyLits_pk ha hb n]
  rfl
theorem pk_inj {a b a' b' : ByteArray} (h : pk a b = pk a' b') : a = a' ∧ b = b' := by
  unfold pk at h
  simpa using h
/-- How often two were met. -/
structure MObj (es : Array MapEntry) (clock : Nat) (c : ByteArray → ByteArray → Int) : Prop where
  st : Stamped es clock
  keys : ∀ x ∈ es.toList, ∃ a b, x.key = pk a b ∧ x.val = .int .i64 (c a b) ∧ Sh a ∧ Sh b
  none : ∀ a b, (∀ x ∈ es.toList, x.key ≠ pk a b) → c a b = 0
def MAt (w : World) (r : Nat) (c : ByteArray → ByteArray → Int) : Prop := ∃ es clock, w.heap[r]? = some (.map es clock) ∧ MObj es clock c
theorem MObj.ks {es : Array MapEntry} {clock : Nat} {c : ByteArray → ByteArray → Int} (h : MObj es clock c) : ∀ x ∈ es.toList, ∃ l, keyOf Tryz.prog 139 x.key = some l := fun x hx => by
  obtain ⟨a, b, e, _, ha, hb⟩ := h.keys x hx
  rw [e]
  exact pk_key ha hb
theorem zero_int (w : World) : (zeroValue 3).run Tryz.prog w = .ok (.int .i64 0) w := by kernel_rfl
theorem run_look {w : World} {r : Nat} {es : Array MapEntry} {clock : Nat} {c : ByteArray → ByteArray → Int} (hb : w.heap[r]? = some (.map es clock)) (h : MObj es clock c) {a b : ByteArray} (ha : Sh a) (hb' : Sh b) :
    (Instr.lookup 82 (.map (some r)) (pk a b) false).run Tryz.prog w = .ok (.int .i64 (c a b)) w := by
  obtain ⟨l, hl⟩ := pk_key ha hb'
  rcases pairLaw.find w hl es.toList h.ks with ⟨h1, h2⟩ | ⟨j, e0, h1, h2, h3⟩
  · rw [h.none a b h2]
    simp [Instr.lookup, run_underlying Tryz.underlying82, MapKept.run_getObj_map hb, pairLaw.check w _ hl, h1, Result.andThen]
  · obtain ⟨a', b', e1, e2, _, _⟩ := h.keys e0 (List.mem_of_getElem? h2)
    obtain ⟨rfl, rfl⟩ := pk_inj (e1.symm.trans h3)
    simp [Instr.lookup, run_underlying Tryz.underlying82, MapKept.run_getObj_map hb, pairLaw.check w _ hl, h1, Result.andThen, e2]
theorem modify_same {f : MapEntry → MapEntry} : ∀ (l : List MapEntry) (j : Nat) (e0 : MapEntry), l[j]? = some e0 → f e0 = e0 → l.modify j f = l
  | [], j, e0, h, _ => by simp at h
  | x :: l, 0, e0, h, hf => by simp at h; subst h; simp [hf]
  | x :: l, j + 1, e0, h, hf => by simp at h; simp [modify_same l j e0 h hf]
def incr (c : ByteArray → ByteArray → Int) (a b : ByteArray) : ByteArray → ByteArray → Int := fun x y => if x = a ∧ y = b then c a b + 1 else c x y
/-- The entry is found, or made; then it is stored into. -/
theorem run_entry {w : World} {r : Nat} {es : Array MapEntry} {clock : Nat} {c : ByteArray → ByteArray → Int} (hb : w.heap[r]? = some (.map es clock)) (h : MObj es clock c) {a b : ByteArray} (ha : Sh a) (hb' : Sh b) :
    ∃ (st : Nat) (es1 : Array MapEntry) (clock1 : Nat), (Instr.mapEntry 82 (.map (some r)) (pk a b)).run Tryz.prog w = .ok (.tuple #[.int .i64 (c a b), goInt st]) (setBlock w r (.map es1 clock1)) ∧ MObj es1 clock1 c ∧
      ∀ W : World, W.heap[r]? = some (.map es1 clock1) → ∃ es' clock', (Instr.entryStore 82 (.map (some r)) (goInt st) (.int .i64 (c a b + 1))).run Tryz.prog W = .ok () (setBlock W r (.map es' clock')) ∧ MObj es' clock' (incr c a b) := by
  obtain ⟨l, hl⟩ := pk_key ha hb'
  obtain ⟨s1, s2, s3⟩ := h.st
  rcases pairLaw.find w hl es.toList h.ks with ⟨h1, h2⟩ | ⟨j, e0, h1, h2, h3⟩
  · have hz := h.none a b h2
    have hidx : (es.push ⟨pk a b, .int .i64 0, clock⟩).findIdx? (fun e => ((e.born : Nat) : Int) == ((clock : Nat) : Int)) = some es.size := by
      rw [findIdx_arr]
      have := findIdx_born (l := (es.push ⟨pk a b, .int .i64 0, clock⟩).toList) (j := es.size) (e0 := ⟨pk a b, .int .i64 0, clock⟩) (by
        simp only [Array.toList_push, List.map_append, List.map_cons, List.map_nil]
        refine List.nodup_append.2 ⟨s2, by simp, fun a ha c hc e1 => ?_⟩
        simp only [List.mem_singleton] at hc
        obtain ⟨x, hx, rfl⟩ := List.mem_map.1 ha
        have := s1 x hx
        omega) (by simp)
      simpa using this
    refine ⟨clock, es.push ⟨pk a b, .int .i64 0, clock⟩, clock + 1, ?_, ⟨stamped_push h.st h2, fun x hx => ?_, fun a' b' hn => ?_⟩, fun W hW => ⟨(es.push ⟨pk a b, .int .i64 0, clock⟩).modify es.size (fun e => { e with val := .int .i64 (c a b + 1) }), clock + 1, ?_, ?_⟩⟩
    · rw [hz]
      simp [Instr.mapEntry, run_underlying Tryz.underlying82, MapKept.run_getObj_map hb, pairLaw.check w false hl, h1, MapKept.run_setObj_map _ hb, Result.andThen, setBlock]
    · simp only [Array.toList_push, List.mem_append, List.mem_singleton] at hx
      rcases hx with hx | rfl
      · exact h.keys x hx
      · exact ⟨a, b, rfl, by rw [hz], ha, hb'⟩
    · exact h.none a' b' fun x hx => hn x (by simp [hx])
    · simp [Instr.entryStore, MapKept.run_getObj_map hW, MapKept.run_setObj_map _ hW, hidx, Result.andThen, setBlock, goInt, asInt, asIntOf]
    · have hm : ((es.push ⟨pk a b, .int .i64 0, clock⟩).modify es.size (fun e => { e with val := .int .i64 (c a b + 1) })).toList = es.toList ++ [⟨pk a b, .int .i64 (c a b + 1), clock⟩] := by
        rw [Array.toList_modify, Array.toList_push, ← Array.length_toList]
        exact Go.WideElems.modify_last _ _ _
      refine ⟨stamped_modify (stamped_push h.st h2) _ _ (fun _ _ => rfl) (fun _ _ _ => rfl), fun x hx => ?_, fun a' b' hn => ?_⟩
      · rw [hm] at hx
        simp only [List.mem_append, List.mem_singleton] at hx
        rcases hx with hx | rfl
        · obtain ⟨a', b', e1, e2, e3, e4⟩ := h.keys x hx
          refine ⟨a', b', e1, ?_, e3, e4⟩
          unfold incr
          rw [if_neg, e2]
          rintro ⟨rfl, rfl⟩
          exact h2 x hx e1
        · exact ⟨a, b, rfl, by unfold incr; rw [if_pos ⟨rfl, rfl⟩], ha, hb'⟩
      · rw [hm] at hn
        unfold incr
        rw [if_neg]
        · exact h.none a' b' fun x hx => hn x (by simp [hx])
        · rintro ⟨rfl, rfl⟩
          exact hn ⟨pk a' b', .int .i64 (c a' b' + 1), clock⟩ (by simp) rfl
  · have hmem := List.mem_of_getElem? h2
    obtain ⟨a', b', e1, e2, _, _⟩ := h.keys e0 hmem
    obtain ⟨rfl, rfl⟩ := pk_inj (e1.symm.trans h3)
    have hj : es[j]? = some e0 := by rw [← Array.getElem?_toList]; exact h2
    have hsame : es.modify j (fun e => { e with key := pk a' b' }) = es := by
      apply Array.toList_inj.1
      rw [Array.toList_modify]
      exact modify_same es.toList j e0 h2 (by rw [← h3])
    have hidx : es.findIdx? (fun e => ((e.born : Nat) : Int) == ((e0.born : Nat) : Int)) = some j := by
      rw [findIdx_arr]
      exact findIdx_born s2 h2
    refine ⟨e0.born, es, clock, ?_, h, fun W hW => ⟨es.modify j (fun e => { e with val := .int .i64 (c a' b' + 1) }), clock, ?_, ?_⟩⟩
    · have hst := pairLaw.stays w hl
      simp [Instr.mapEntry, run_underlying Tryz.underlying82, MapKept.run_getObj_map hb, pairLaw.check w false hl, h1, MapKept.run_setObj_map _ hb, Result.andThen, setBlock, hj, h3, hst, e2, hsame]
    · simp [Instr.entryStore, MapKept.run_getObj_map hW, MapKept.run_setObj_map _ hW, hidx, Result.andThen, setBlock, goInt, asInt, asIntOf]
    · refine ⟨stamped_modify h.st _ _ (fun _ _ => rfl) (fun _ _ _ => rfl), fun x hx => ?_, fun a1 b1 hn => ?_⟩
      · rw [Array.toList_modify] at hx
        obtain ⟨i, hi, rfl⟩ := List.getElem_of_mem hx
        rw [List.length_modify] at hi
        rw [List.getElem_modify]
        by_cases hij : j = i
        · subst hij
          have : es.toList[j] = e0 := by
            have := List.getElem?_eq_getElem hi
            rw [h2] at this
            exact (Option.some.inj this).symm
          rw [if_pos rfl, this]
          exact ⟨a', b', h3, by unfold incr; rw [if_pos ⟨rfl, rfl⟩], ha, hb'⟩
        · rw [if_neg hij]
          obtain ⟨x1, y1, f1, f2, f3, f4⟩ := h.keys es.toList[i] (List.getElem_mem hi)
          refine ⟨x1, y1, f1, ?_, f3, f4⟩
          unfold incr
          rw [if_neg, f2]
          rintro ⟨rfl, rfl⟩
          have hjl : j < es.toList.length := by
            rcases Nat.lt_or_ge j es.toList.length with hh | hh
            · exact hh
            · rw [List.getElem?_eq_none hh] at h2; cases h2
          have : es.toList[j] = e0 := by
            have := List.getElem?_eq_getElem hjl
            rw [h2] at this
            exact (Option.some.inj this).symm
          have hk : (es.toList.map (·.key))[j]'(by simpa using hjl) = (es.toList.map (·.key))[i]'(by simpa using hi) := by
            simp only [List.getElem_map, this, f1, h3]
          rcases Nat.lt_or_gt_of_ne hij with hlt | hlt
          · exact (List.pairwise_iff_getElem.1 s3 j i (by simpa using hjl) (by simpa using hi) hlt) hk
          · exact (List.pairwise_iff_getElem.1 s3 i j (by simpa using hi) (by simpa using hjl) hlt) hk.symm
      · unfold incr
        rw [if_neg]
        · refine h.none a1 b1 fun x hx he => ?_
          have : pk a1 b1 ∈ (es.modify j (fun e => { e with val := .int .i64 (c a' b' + 1) })).toList.map (·.key) := by
            rw [modify_keys j (fun e => { e with val := .int .i64 (c a' b' + 1) }) (fun _ _ => rfl)]
            exact List.mem_map.2 ⟨x, hx, he⟩
          obtain ⟨y, hy, hye⟩ := List.mem_map.1 this
          exact hn y hy hye
        · rintro ⟨rfl, rfl⟩
          have : pk a1 b1 ∈ (es.modify j (fun e => { e with val := .int .i64 (c a1 b1 + 1) })).toList.map (·.key) := by
            rw [modify_keys j (fun e => { e with val := .int .i64 (c a1 b1 + 1) }) (fun _ _ => rfl)]
            exact List.mem_map.2 ⟨e0, hmem, h3⟩
          obtain ⟨y, hy, hye⟩ := List.mem_map.1 this
          exact hn y hy hye
end Go.Proofs.YtdnkfnccbmbpaaaGreatDoor
