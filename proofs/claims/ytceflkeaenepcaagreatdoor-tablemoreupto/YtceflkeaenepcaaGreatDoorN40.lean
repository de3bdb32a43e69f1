import Derived.Test.YtceflkeaenepcaaGreatDoorN39
import Derived.Maps.AppendAt
import Derived.Lib.MinMaxS
import Derived.Test.YtceflkeaenepcaaGreatDoorN3
namespace Go.Proofs.YtceflkeaenepcaaGreatDoor
open Go.RowKit
theorem fs_cell6 {w : World} {B gm n cap k : Nat} {ps : List (Rec × Value)} (h : w.ownsRow B 29 8 (.slice (some ⟨gm, 0, none⟩) n cap) ps.length (rcells ps)) (hk : k < ps.length) : w.cell? ⟨gm, k * 8 + 4, none⟩ = some (ps.getD k pd6).2 ∧ w.frozen? ⟨gm, k * 8 + 4, none⟩ = false := by
  rcases h.2 with ⟨e, _⟩ | ⟨g, c, cur, e, h1, h2, h3, h4, h5, h6⟩
  · cases e
  · simp only [Value.slice.injEq, Option.some.injEq, Addr.mk.injEq] at e
    obtain ⟨⟨rfl, _⟩, hn, rfl⟩ := e
    have hlt : k * 8 + 4 < ps.length * 8 := by omega
    have hc := cell_of (j := k * 8 + 4) h2 (by omega)
    refine ⟨?_, frozen_of (j := k * 8 + 4) h2⟩
    rw [hc]
    have e1 : (rcells ps)[k * 8 + 4]? = some (ps.getD k pd6).2 := by
      rw [rcells_at ps k 4 hk (by omega)]
      simp only [List.getD, List.getElem?_eq_getElem hk, Option.getD_some]
      rfl
    rw [← h6, List.getElem?_take, if_pos hlt] at e1
    simp only [Array.getElem?_toList] at e1
    simp [Array.getD_eq_getD_getElem?, e1]
def ma6 : Rec × Value := (⟨-7, 0, 0, 0, [], ⟨#[]⟩, ⟨#[]⟩, 0⟩, .slice none 0 0)
def mb6 : Rec × Value := (⟨-8, 0, 0, 0, [], ⟨#[]⟩, ⟨#[]⟩, 0⟩, .slice none 0 0)
structure Fw6 (w : World) (B g cap : Nat) (rs : List Rec) (ps : List (Rec × Value)) : Prop where
  map : ps.map (·.1) = rs
  row : w.ownsRow B 29 8 (.slice (some ⟨g, 0, none⟩) (rs.length + 2) cap) (rs.length + 2) (rcells (ps ++ [ma6, mb6]))
  mks : ∀ i, i < ps.length → Mk6 w B (ps.getD i pd6)
def FewQ6 (w : World) (rs : List Rec) (e : Ending) (w' : World) : Prop := ∃ g cap ps, e = .returned (.slice (some ⟨g, 0, none⟩) rs.length cap) ∧ Fw6 w' w.heap.size g cap rs ps ∧ Below w.heap.size w w'
theorem lit_marks6 (W : World) : ∀ j u, (rcells [ma6, mb6])[j]? = some u → (W.alloc (.cells (rcells [ma6, mb6]).toArray 29)).cell? ((⟨W.heap.size, 0, none⟩ : Addr).add j) = some u := by
  intro j u h
  have hh : (W.alloc (.cells (rcells [ma6, mb6]).toArray 29)).heap[W.heap.size]? = some (.cells (rcells [ma6, mb6]).toArray 29 (0, 0)) := by
    show (W.heap.push _)[W.heap.size]? = _
    simp
  rw [addr_add, Nat.zero_add]
  have hj : j < (rcells [ma6, mb6]).length := (List.getElem?_eq_some_iff.1 h).1
  rw [cell_of (j := j) hh (by simpa using hj)]
  rw [Array.getD_eq_getD_getElem?, List.getElem?_toArray, h]; rfl
theorem marks_one6 : ∀ u ∈ rcells [ma6, mb6], u.oneCell' = true := by
  intro u hu
  obtain ⟨p, hp, hu⟩ := List.mem_flatMap.1 hu
  simp only [List.mem_cons, List.mem_nil_iff, or_false] at hp
  rcases hp with rfl | rfl
  · exact rec_one _ rfl u hu
  · exact rec_one _ rfl u hu
set_option maxRecDepth 20000 in
set_option maxHeartbeats 8000000 in
theorem few_any6 (v : Value) (rs0 : List Rec) (m : Nat) (w : World) (hv : Rcs w v rs0) (hm : m ≤ 1000) : Calls Tryz.prog 5 #[v, .int .i64 (m : Int)] w (FewQ6 w (rs0.take m)) := by
  obtain ⟨i0, hi, hz0, hz1, hz2⟩ := info_parts Tryz.info21
  obtain ⟨i1, hj, hy0, hy1, hy2⟩ := info_parts Tryz.info29
  have hlen := hv.1
  obtain ⟨ao, cap, rfl, h1, h2⟩ := hv.shape
  obtain ⟨n, hn⟩ : ∃ n, n = min rs0.length m := ⟨_, rfl⟩
  have hmin : min (rs0.length : Int) (m : Int) = (n : Int) := by omega
  have hn1 : n ≤ rs0.length := by omega
  have hn2 : n ≤ 1000 := by omega
  have htt : rs0.take m = rs0.take n := by rw [hn, List.take_eq_take_min, Nat.min_comm]
  rw [htt]
  have K := hide (refCopied_apart6 _ _ w (hv.head hn1))
  have htl : (rs0.take n).length = n := by rw [List.length_take]; omega
  have HFT : Hid (∀ r ∈ rs0.take n, r.to.length ≤ 1000000000) := fun r hr => (hv.2.1 r (List.mem_of_mem_take hr)).len
  clear hv htt hn
  generalize rs0.take n = rs at *
  go_enter Tryz.func5, Tryz.ntmps5
  go_wp2_with fail
  refine (unhide K).mono ?_
  rintro e w1 ⟨v1, ps, rfl, hmap, hR, hap, b1⟩
  have hpl : ps.length = n := by rw [← htl, ← hmap, List.length_map]
  obtain ⟨a1, c1, hv1⟩ : ∃ a1 c1, v1 = .slice a1 n c1 := by
    rcases hR.1.2 with ⟨e, h0⟩ | ⟨g, c, cur, e, _⟩
    · exact ⟨_, _, by rw [e, ← hpl, h0]⟩
    · exact ⟨_, _, by rw [e, hpl]⟩
  subst hv1
  have HF0 : Hid (Fs6 w1 w.heap.size (.slice a1 n c1) ps 0) := ⟨hR.1, fun i hi => absurd hi (by omega), fun i _ hi => hR.2 _ (by simp [List.getD, hi]), apart_at6 hap⟩
  have HB1 := hide b1
  have HMAP := hide hmap
  clear K hR hap b1 hmap
  go_wp2
  go_loopw [6, 7] (fun i _ wr => ∃ (k : Nat) (qs : List (Rec × Value)), i = .int .i64 k ∧ k ≤ n ∧ qs.length = n ∧ qs.map (·.1) = rs ∧ Fs6 wr w.heap.size (.slice a1 n c1) qs k ∧ Below w.heap.size w wr) (fun i _ _ => n - (intOf i).toNat)
  case atStart => exact ⟨0, ps, rfl, Nat.zero_le _, hpl, unhide HMAP, unhide HF0, unhide HB1⟩
  case round =>
    clear HF0 HB1 HMAP
    obtain ⟨k, qs, rfl, hk, hql, hqm, hf, hb⟩ := hrel
    have hs := hb.size
    by_cases hlt : k < n
    · obtain ⟨gm, hgm⟩ : ∃ gm, a1 = some ⟨gm, 0, none⟩ := by
        rcases hf.row.2 with ⟨e, h0⟩ | ⟨g, c, cur, e, _⟩
        · omega
        · simp only [Value.slice.injEq] at e
          exact ⟨g, e.1⟩
      subst hgm
      obtain ⟨x4, f4⟩ := fs_cell6 hf.row (k := k) (by omega)
      have hok := hf.snd k (Nat.le_refl _) (by omega)
      have hln : (qs.getD k pd6).1.to.length ≤ 1000000000 := (unhide HFT) _ (by
        rw [← hqm]
        refine List.mem_map.2 ⟨_, ?_, rfl⟩
        simp [List.getD, show k < qs.length by omega])
      have HSTEP : Hid (∀ w2 g' cap', Ok .i32 21 w2 w.heap.size (.slice (some ⟨g', 0, none⟩) ((qs.getD k pd6).1.to.length + 2) cap') ((qs.getD k pd6).1.to ++ [-7, -8]) → (wr.alloc (.cells #[.int .i32 (-7), .int .i32 (-8)] 21)).grownBy w2 (qs.getD k pd6).2.ownBlock → (some g' = (qs.getD k pd6).2.ownBlock ∨ some g' = some (wr.alloc (.cells #[.int .i32 (-7), .int .i32 (-8)] 21)).heap.size) →
          Fs6 (w2.setCell ⟨gm, k * 8 + 4, none⟩ (.slice (some ⟨g', 0, none⟩) (qs.getD k pd6).1.to.length cap')) w.heap.size (.slice (some ⟨gm, 0, none⟩) n c1) (qs.set k ((qs.getD k pd6).1, .slice (some ⟨g', 0, none⟩) (qs.getD k pd6).1.to.length cap')) (k + 1)) := fun w2 g' cap' h1 h2 h3 => fs_step6 hf (by omega) h1 h2 h3
      have hgk : (qs.getD k pd6).2.ownBlock ≠ some gm := fun e => own_apart hok.2.2 hf.row (by decide) e rfl
      have hgl : gm < wr.heap.size := (hf.row.lt gm rfl).2
      have hgB : w.heap.size ≤ gm := (hf.row.lt gm rfl).1
      have HMS : Hid (∀ v, (qs.set k ((qs.getD k pd6).1, v)).map (·.1) = rs) := fun v => by rw [map_set6 v (by omega)]; exact hqm
      have HKB : Hid (∀ j, (qs.getD k pd6).2.ownBlock = some j → w.heap.size ≤ j) := fun j hj => (hok.row.lt j hj).1
      have HB := hide hb
      obtain ⟨pk, hpk⟩ : ∃ pk, qs.getD k pd6 = pk := ⟨_, rfl⟩
      rw [hpk] at x4 hok hln HSTEP hgk HMS HKB
      clear hpk hf hb hqm
      obtain ⟨r, tv⟩ := pk
      obtain ⟨at', ct, hte, _, _⟩ := hok.sk.shape
      replace hok : Ok .i32 21 wr w.heap.size tv r.to := hok
      replace x4 : wr.cell? ⟨gm, k * 8 + 4, none⟩ = some tv := x4
      replace hln : r.to.length ≤ 1000000000 := hln
      replace hgk : tv.ownBlock ≠ some gm := hgk
      replace hte : tv = .slice at' r.to.length ct := hte
      subst hte
      have hro := (hok.row.alloc (.cells #[.int .i32 (-7), .int .i32 (-8)] 21))
      have HRO := hide hro
      have HFI := hide hok.1
      have hW1 : (wr.alloc (.cells #[.int .i32 (-7), .int .i32 (-8)] 21)).heap.size = wr.heap.size + 1 := by simp
      have HW1 := hide hW1
      have HLIT : Hid (∀ j u, [Value.int .i32 (-7), .int .i32 (-8)][j]? = some u → (wr.alloc (.cells #[.int .i32 (-7), .int .i32 (-8)] 21)).cell? ((⟨wr.heap.size, 0, none⟩ : Addr).add j) = some u) := fun j u h => by
        have hh : (wr.alloc (.cells #[.int .i32 (-7), .int .i32 (-8)] 21)).heap[wr.heap.size]? = some (.cells #[.int .i32 (-7), .int .i32 (-8)] 21 (0, 0)) := by
          show (wr.heap.push _)[wr.heap.size]? = _
          simp
        rw [addr_add, Nat.zero_add]
        match j, h with
        | 0, h => rw [cell_of (j := 0) hh (by simp)]; simpa using h
        | 1, h => rw [cell_of (j := 1) hh (by simp)]; simpa using h
      have HX4 : Hid (∀ W, (wr.alloc (.cells #[.int .i32 (-7), .int .i32 (-8)] 21)).grownBy W (Value.slice at' r.to.length ct).ownBlock → W.cell? ⟨gm, k * 8 + 4, none⟩ = some (.slice at' r.to.length ct) ∧ W.frozen? ⟨gm, k * 8 + 4, none⟩ = false) := fun W hW => by
        have hbk : W.heap[gm]? = wr.heap[gm]? := by
          rw [hW.block gm (by omega) (fun e => hgk e.symm)]
          exact ((Below.refl wr.heap.size wr).alloc (Nat.le_refl _) _).block gm hgl
        exact ⟨by rw [World.cell?_of_block hbk]; exact x4, by rw [World.frozen?_of_block hbk]; exact f4⟩
      have HBB : Hid (∀ W, (wr.alloc (.cells #[.int .i32 (-7), .int .i32 (-8)] 21)).grownBy W (Value.slice at' r.to.length ct).ownBlock → ∀ x, Below w.heap.size w (W.setCell ⟨gm, k * 8 + 4, none⟩ x)) := fun W hW x => (((unhide HB).alloc hs _).grown hW (by omega) (unhide HKB)).setCell (p := ⟨gm, k * 8 + 4, none⟩) hgB x
      clear hok hro hW1 f4 HB HKB
      go_wp2_with (at_builtin; refine wpList_append_own_at _ rfl (.tmp 34) (.tmp 35) 26 rfl w.heap.size 21 i0 (.int .i32 0) 1 4 Tryz.underlying26 hi hz0 hz1 hz2 rfl (by decide) _ _ _ rfl (unhide HRO) ⟨wr.heap.size, 0, none⟩ 2 2 [.int .i32 (-7), .int .i32 (-8)] rfl rfl (unhide HLIT) (fun u hu => by simp at hu; rcases hu with rfl | rfl <;> rfl) (by unfold maxLen; omega) (by omega) (by have := unhide HW1; omega) ?_)
      intro v' w2 hrow hgr _ hat
      obtain ⟨g', c', hv', hcc1, hcc2⟩ := own_shape hrow (by omega)
      subst hv'
      have ok2 : Ok .i32 21 w2 w.heap.size (.slice (some ⟨g', 0, none⟩) (r.to.length + 2) c') (r.to ++ [-7, -8]) := Ok.of (fun z hz => by
        rcases List.mem_append.1 hz with h | h
        · exact (unhide HFI) z h
        · simp only [List.mem_cons, List.mem_nil_iff, or_false] at h
          rcases h with rfl | rfl <;> exact i32_fit (by omega)) (by simp; omega) hrow (by simp) (by simp)
      have HFN := hide ((unhide HSTEP) w2 g' c' ok2 hgr (by rw [unhide HW1]; exact hat))
      have HBN := hide ((unhide HBB) w2 hgr (.slice (some ⟨g', 0, none⟩) r.to.length c'))
      obtain ⟨y4, yf⟩ := (unhide HX4) w2 hgr
      clear HRO HFI HLIT HX4 HSTEP HBB hrow hgr hat ok2 x4 HW1
      go_wp2
      go_roundw
      case rel => exact ⟨k + 1, _, by go_num, by omega, by rw [List.length_set]; exact hql, (unhide HMS) _, unhide HFN, unhide HBN⟩
      case measure => simp [intOf]; omega
    · obtain rfl : k = n := by omega
      have HM : Hid ((wr.alloc (.cells (rcells [ma6, mb6]).toArray 29)).ownsRow w.heap.size 29 8 (.slice a1 k c1) k (rcells qs)) := by
        have := hf.row.alloc (.cells (rcells [ma6, mb6]).toArray 29)
        rw [hql] at this
        exact this
      have HLIT := hide (lit_marks6 wr)
      have HMK : Hid (∀ w9, (wr.alloc (.cells (rcells [ma6, mb6]).toArray 29)).grownBy w9 (Value.slice a1 k c1).ownBlock → ∀ i, i < qs.length → Mk6 w9 w.heap.size (qs.getD i pd6)) := fun w9 hg i hi => by
        have hm := hf.fst i (by omega) hi
        refine hm.keep fun g hgi => ?_
        obtain ⟨g1, c1', e1, ok1⟩ := hm
        have hgo : (Value.slice (some ⟨g1, 0, none⟩) ((qs.getD i pd6).1.to.length + 2) c1').ownBlock = some g := by rw [e1] at hgi; exact hgi
        have hgl := (ok1.row.lt g hgo).2
        rw [hg.block g (by simp; omega) (fun e => own_apart ok1.2.2 hf.row (by decide) hgo e.symm)]
        exact ((Below.refl wr.heap.size wr).alloc (Nat.le_refl _) _).block g hgl
      have HBB : Hid (∀ w9, (wr.alloc (.cells (rcells [ma6, mb6]).toArray 29)).grownBy w9 (Value.slice a1 k c1).ownBlock → Below w.heap.size w w9) := fun w9 hg => (hb.alloc hs _).grown hg (by simp; omega) (fun j hj => (hf.row.lt j hj).1)
      have HQM := hide hqm
      have hsz : w.heap.size ≤ (wr.alloc (.cells (rcells [ma6, mb6]).toArray 29)).heap.size := by simp; omega
      have HSZ := hide hsz
      obtain ⟨W1, hW1⟩ : ∃ W1, wr.alloc (.cells (rcells [ma6, mb6]).toArray 29) = W1 := ⟨_, rfl⟩
      rw [hW1] at HM HLIT HMK HBB HSZ
      clear hf hb hqm hsz
      replace hW1 : wr.alloc (.cells #[.int .i64 (-7), .int .i64 0, .int .i64 0, .int .i64 0, .slice none 0 0, .string ⟨#[]⟩, .string ⟨#[]⟩, .float .f64 0, .int .i64 (-8), .int .i64 0, .int .i64 0, .int .i64 0, .slice none 0 0, .string ⟨#[]⟩, .string ⟨#[]⟩, .float .f64 0] 29) = W1 := hW1
      go_wp2_with (at_builtin; refine wpList_append_own _ rfl (.tmp 43) (.tmp 46) 22 rfl w.heap.size 29 i1 (.agg #[.int .i64 0, .int .i64 0, .int .i64 0, .int .i64 0, .slice none 0 0, .string ⟨#[]⟩, .string ⟨#[]⟩, .float .f64 0]) 8 96 Tryz.underlying22 hj hy0 hy1 hy2 rfl (by decide) _ _ _ rfl (unhide HM) ⟨wr.heap.size, 0, none⟩ 2 2 (rcells [ma6, mb6]) rfl (by rw [rcells_length]; rfl) (unhide HLIT) marks_one6 (by unfold maxLen; omega) (by omega) (unhide HSZ) ?_)
      intro v9 w9 hrow9 hg9 _
      obtain ⟨g9, c9, hv9⟩ : ∃ g c, v9 = .slice (some ⟨g, 0, none⟩) (k + 2) c := by
        rcases hrow9.2 with ⟨_, h0⟩ | ⟨g, c, cur, e, _⟩
        · omega
        · exact ⟨g, c, e⟩
      subst hv9
      have hcap : k + 2 ≤ c9 ∧ c9 ≤ 9223372036854775807 := by
        rcases hrow9.2 with ⟨h0, _⟩ | ⟨g, c, cur, e, _, _, h3, h4, _⟩
        · cases h0
        · simp only [Value.slice.injEq] at e
          obtain ⟨_, _, rfl⟩ := e
          unfold maxLen at h4
          exact ⟨h3, by omega⟩
      obtain ⟨hca, hcb⟩ := hcap
      have HF : Hid (FewQ6 w rs (.returned (.slice (some ⟨g9, 0, none⟩) k c9)) w9) := ⟨g9, c9, qs, by rw [htl], ⟨unhide HQM, by
        rw [htl]
        have e : rcells qs ++ rcells [ma6, mb6] = rcells (qs ++ [ma6, mb6]) := by unfold rcells; rw [List.flatMap_append]
        rw [← e]; exact hrow9, (unhide HMK) w9 hg9⟩, (unhide HBB) w9 hg9⟩
      clear HM HLIT HMK HBB HQM HSZ hrow9 hg9 hW1
      go_wp2
      go_ret
      exact unhide HF
end Go.Proofs.YtceflkeaenepcaaGreatDoor
namespace Go.Proofs.YtceflkeaenepcaaGreatDoor
open Go.RowKit
theorem own_head6 {w : World} {B g n m cap sz : Nat} {e : TypeId} {us vs : List Value} (h : w.ownsRow B e sz (.slice (some ⟨g, 0, none⟩) m cap) m (us ++ vs)) (hn : us.length = n * sz) (hm : n ≤ m) : w.ownsRow B e sz (.slice (some ⟨g, 0, none⟩) n cap) n us := by
  obtain ⟨h1, h2⟩ := h
  rw [List.length_append] at h1
  rcases h2 with ⟨e1, _⟩ | ⟨g', cap', cur, e1, e2, e3, e4, e5, e6, e7⟩
  · simp at e1
  · simp only [Value.slice.injEq, Option.some.injEq, Addr.mk.injEq] at e1
    obtain ⟨⟨rfl, _⟩, _, rfl⟩ := e1
    refine ⟨hn, Or.inr ⟨g, cap, cur, rfl, e2, e3, by omega, e5, e6, ?_⟩⟩
    have := congrArg (List.take (n * sz)) e7
    rw [List.take_take, Nat.min_eq_left (Nat.mul_le_mul_right sz hm), List.take_append_of_le_length (by omega), List.take_of_length_le (l := us) (by omega)] at this
    exact this
theorem mk_ok6 {w : World} {B : Nat} {p : Rec × Value} (h : Mk6 w B p) : Ok .i32 21 w B p.2 p.1.to := by
  obtain ⟨g, cap, e, ok⟩ := h
  rw [e]
  have hr := ok.row
  rw [List.map_append, List.length_append] at hr
  exact Ok.of (fun z hz => ok.1 z (List.mem_append_left _ hz)) (by have := ok.sk.len; rw [List.length_append] at this; omega) (own_head6 hr (by simp) (by simp)) rfl rfl
theorem fw_rown6 {w : World} {B g cap : Nat} {rs : List Rec} {ps : List (Rec × Value)} (h : Fw6 w B g cap rs ps) : Rown w B (.slice (some ⟨g, 0, none⟩) rs.length cap) ps := by
  have hl : ps.length = rs.length := by rw [← h.map, List.length_map]
  have hr := h.row
  have e : rcells (ps ++ [ma6, mb6]) = rcells ps ++ rcells [ma6, mb6] := by unfold rcells; rw [List.flatMap_append]
  rw [e] at hr
  refine ⟨by rw [hl]; exact own_head6 hr (by rw [rcells_length, hl]) (by omega), fun p hp => ?_⟩
  obtain ⟨i, hi, rfl⟩ := List.getElem_of_mem hp
  have := mk_ok6 (h.mks i hi)
  simpa [List.getD, hi] using this
theorem fw_rcs6 {w : World} {B g cap : Nat} {rs : List Rec} {ps : List (Rec × Value)} (h : Fw6 w B g cap rs ps) (hl : rs.length ≤ 1000000000) (hf : ∀ r ∈ rs, RecFit r) : Rcs w (.slice (some ⟨g, 0, none⟩) rs.length cap) rs := by
  have hm := h.map
  have := (fw_rown6 h).rcs (by rw [← List.length_map (f := (·.1)), hm]; exact hl) (fun p hp => hf p.1 (by rw [← hm]; exact List.mem_map.2 ⟨p, hp, rfl⟩))
  rw [hm] at this
  exact this
theorem Fw6.below {w w' : World} {B g cap : Nat} {rs : List Rec} {ps : List (Rec × Value)} (h : Fw6 w B g cap rs ps) (hb : Below w.heap.size w w') : Fw6 w' B g cap rs ps :=
  ⟨h.map, own_keep h.row fun j hj => hb.block j (h.row.lt j hj).2, fun i hi => by
    have hm := h.mks i hi
    refine hm.keep fun j hj => hb.block j ?_
    obtain ⟨g1, c1, e1, ok1⟩ := hm
    exact (ok1.row.lt j (by rw [e1] at hj; exact hj)).2⟩
theorem fw_at6 {w : World} {B g cap : Nat} {rs : List Rec} {ps : List (Rec × Value)} (h : Fw6 w B g cap rs ps) : w.cell? ⟨g, rs.length * 8, none⟩ = some (.int .i64 (-7)) ∧ w.cell? ⟨g, (rs.length + 1) * 8, none⟩ = some (.int .i64 (-8)) := by
  have hl : ps.length = rs.length := by rw [← h.map, List.length_map]
  have hc : ∀ i j u, i < (ps ++ [ma6, mb6]).length → j < 8 → (rcell ((ps ++ [ma6, mb6]).getD i (Cn.none, undef)))[j]? = some u → w.cell? ⟨g, i * 8 + j, none⟩ = some u := by
    intro i j u hi hj hu
    have e := h.row.cells (g := g) rfl (i * 8 + j) u (by rw [rcells_at _ i j hi hj]; exact hu)
    rw [addr_add, Nat.zero_add] at e
    exact e
  constructor
  · exact hc rs.length 0 _ (by simp; omega) (by omega) (by rw [← hl]; simp [List.getD]; rfl)
  · exact hc (rs.length + 1) 0 _ (by simp; omega) (by omega) (by rw [← hl]; simp [List.getD]; rfl)
theorem fw_to6 {w : World} {B g cap i : Nat} {rs : List Rec} {ps : List (Rec × Value)} (h : Fw6 w B g cap rs ps) (hi : i < rs.length) : ∃ g1 c1 n1, n1 + 2 ≤ c1 ∧ c1 ≤ 9223372036854775807 ∧ w.cell? ⟨g, i * 8 + 4, none⟩ = some (.slice (some ⟨g1, 0, none⟩) n1 c1) ∧ w.cell? ⟨g1, n1, none⟩ = some (.int .i32 (-7)) ∧ w.cell? ⟨g1, n1 + 1, none⟩ = some (.int .i32 (-8)) := by
  have hl : ps.length = rs.length := by rw [← h.map, List.length_map]
  obtain ⟨x4, _⟩ := fs_cell6 (k := i) (by have := (fw_rown6 h).1; exact this) (by omega)
  obtain ⟨g1, c1, e1, ok1⟩ := h.mks i (by omega)
  rw [e1] at x4
  have hlen : ((ps.getD i pd6).1.to ++ [-7, -8]).length = (ps.getD i pd6).1.to.length + 2 := by simp
  obtain ⟨b, o, c, he, h1, h2, hc⟩ := ok1.sk.place (by rw [hlen]; omega)
  simp only [Value.slice.injEq, Option.some.injEq, Addr.mk.injEq, and_true] at he
  obtain ⟨⟨rfl, rfl⟩, -, rfl⟩ := he
  rw [hlen] at h1
  have a1 := hc (ps.getD i pd6).1.to.length (by rw [hlen]; omega)
  have a2 := hc ((ps.getD i pd6).1.to.length + 1) (by rw [hlen]; omega)
  refine ⟨g1, c1, _, h1, h2, x4, ?_, ?_⟩
  · rw [Nat.zero_add] at a1
    rw [a1]
    simp [List.getD]
  · rw [Nat.zero_add] at a2
    rw [a2]
    simp [List.getD]
end Go.Proofs.YtceflkeaenepcaaGreatDoor
