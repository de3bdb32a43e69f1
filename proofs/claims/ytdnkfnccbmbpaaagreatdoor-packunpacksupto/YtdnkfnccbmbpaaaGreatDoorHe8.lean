import Derived.Test.YtdnkfnccbmbpaaaGreatDoorGt8
import Derived.KernelRfl
import Derived.Test.YtdnkfnccbmbpaaaGreatDoorHd8
import Derived.Test.YtdnkfnccbmbpaaaGreatDoorGb8
/- The statements' own told and few. -/
namespace Go.Proofs.YtdnkfnccbmbpaaaGreatDoor
open Go.RowKit
open Wi

def Tells8 (w : World) (b : Bool) (e : Ending) (w' : World) : Prop := e = .returned (.bool b) ∧ Below w.heap.size w w'
namespace Pk
def t0 : Rec := ⟨1, 97, 122, 0, [], ⟨#[]⟩, ⟨#[]⟩, 0⟩
def b13 : List Int := [101, 110, 100, 111, 1, 1, 1, 97, 25, 195, 174, 235, 120]
theorem pack_t0 : pack [t0] = (b13, 0, 0) := by kernel_rfl
theorem unpack_b13 : unpack b13 = ([t0], 0, 0) := by kernel_rfl
theorem str9 : strOfNums (b13.take 9) = ⟨#[101, 110, 100, 111, 1, 1, 1, 97, 25]⟩ := rfl
end Pk
theorem t0_fit : RecFit Pk.t0 := ⟨by unfold I64 Pk.t0; decide, by unfold I64 Pk.t0; decide, by unfold I64 Pk.t0; decide, by unfold I64 Pk.t0; decide, by decide, by decide⟩
theorem t0_rcs (w : World) : Rcs (w.alloc (.cells #[.int .i64 1, .int .i64 97, .int .i64 122, .int .i64 0, .slice none 0 0, .string ⟨#[]⟩, .string ⟨#[]⟩, .float .f64 0] 46)) (.slice (some ⟨w.heap.size, 0, none⟩) 1 1) [Pk.t0] := by
  have hb : (w.alloc (.cells #[.int .i64 1, .int .i64 97, .int .i64 122, .int .i64 0, .slice none 0 0, .string ⟨#[]⟩, .string ⟨#[]⟩, .float .f64 0] 46)).heap[w.heap.size]? = some (.cells #[.int .i64 1, .int .i64 97, .int .i64 122, .int .i64 0, .slice none 0 0, .string ⟨#[]⟩, .string ⟨#[]⟩, .float .f64 0] 46 (0, 0)) := by
    show (w.heap.push _)[w.heap.size]? = _
    simp
  obtain ⟨z0, z1, z2, z3, z4, z5, z6, z7⟩ := cells8 hb
  refine ⟨by simp, fun r hr => ?_, .inr ⟨w.heap.size, 0, 1, rfl, by simp, by omega, fun i hi => ?_⟩⟩
  · simp only [List.mem_singleton] at hr; subst hr; exact t0_fit
  · match i, hi with
    | 0, _ => exact ⟨z0, z1, z2, z3, ⟨_, z4, Sk.nil _ _⟩, z5, z6, z7⟩
set_option maxRecDepth 8000 in
set_option maxHeartbeats 2000000 in
theorem told8_any (w : World) (hgl : Glob w) : Calls Tryz.prog 8 #[] w (Tells8 w true) := by
  have b0 : Below w.heap.size w (w.alloc (.cells #[.int .i64 1, .int .i64 97, .int .i64 122, .int .i64 0, .slice none 0 0, .string ⟨#[]⟩, .string ⟨#[]⟩, .float .f64 0] 46)) := (Below.refl _ _).alloc (Nat.le_refl _) _
  have HRC := hide (t0_rcs w)
  have K1 := pack_any _ [Pk.t0] _ (hgl.on b0) (t0_rcs w)
  rw [Pk.pack_t0] at K1
  have K1 := hide K1
  have HGL : Hid (∀ W, Below w.heap.size w W → Glob W) := fun W h => hgl.on h
  have hfl : ∀ W a m, (store a (.float .f64 0) m).run Tryz.prog W = stored Tryz.prog W a (.float .f64 0) m := fun W a m => run_store Tryz.prog W a _ m rfl
  clear hgl
  go_enter Tryz.func8, Tryz.ntmps8
  go_wp2_with fail
  refine (unhide K1).mono ?_
  rintro e1 w1 ⟨v1, rfl, hown, hb1⟩
  have hB1 : Below w.heap.size w w1 := bthen b0 hb1
  have K2 := unpack_any v1 Pk.b13 w1 ((unhide HGL) w1 hB1) hown.sl
  rw [Pk.unpack_b13] at K2
  have K2 := hide K2
  obtain ⟨ao, cap, hve, hcl, hcm⟩ := hown.sl.shape
  have hve2 : v1 = .slice ao 13 cap := hve
  have HSL := hide hown.sl
  have hc13 : 13 ≤ cap := hcl
  subst hve2
  clear K1 hown hve hcl
  go_wp2_with fail
  refine (unhide K2).mono ?_
  rintro e2 w2 ⟨v2, ps, rfl, hR, hps, hb2⟩
  have hB2 : Below w.heap.size w w2 := bthen hB1 hb2
  have hcv := (((unhide HSL).below hb2).head (k := 9) (by decide) hc13).conv
  rw [Pk.str9] at hcv
  have hcv2 : (convert 24 9 (.slice ao 9 cap)).run Tryz.prog w2 = .ok (.string ⟨#[101, 110, 100, 111, 1, 1, 1, 97, 25]⟩) w2 := hcv
  replace hps : ps.map (·.1) = [Pk.t0] := hps
  have hrc2 : Rcs w2 v2 [Pk.t0] := by
    rw [← hps]
    refine hR.rcs ?_ (fun p hp => ?_)
    · have := congrArg List.length hps
      rw [List.length_map] at this
      rw [this]; simp
    · have : p.1 ∈ ps.map (·.1) := List.mem_map.2 ⟨p, hp, rfl⟩
      rw [hps] at this
      simp only [List.mem_singleton] at this
      rw [this]; exact t0_fit
  have hrc1 := ((unhide HRC).below hb1).below hb2
  have K3 := hide (sameRecs_eq _ v2 [Pk.t0] w2 hrc1 hrc2)
  obtain ⟨lao, lcap, hvl, _⟩ := hR.shape
  subst hvl
  clear K2 HSL HRC hR hps hcv hrc1 hrc2
  go_wp2_with fail
  refine (unhide K3).mono ?_
  rintro e3 w3 ⟨rfl, hb3⟩
  have HF : Tells8 w true (.returned (.bool true)) w3 := ⟨rfl, bthen hB2 hb3⟩
  clear K3 hb3 hB2 hB1 hb1 hb2 b0 hcv2
  go_wp2
  go_ret
  exact HF
/-- At most so many records, in memory of their own. -/
theorem few8_any (v : Value) (rs : List Rec) (m : Nat) (w : World) (hv : Rcs w v rs) (hm : m ≤ 1000) : Calls Tryz.prog 5 #[v, .int .i64 (m : Int)] w (RecsNew w (rs.take m)) := by
  have hlen := hv.1
  obtain ⟨ao, cap, rfl, h1, h2⟩ := hv.shape
  by_cases hle : rs.length ≤ m
  · have hmn : min (rs.length : Int) (m : Int) = (rs.length : Int) := by omega
    have ht : rs.take m = rs.take rs.length := by rw [List.take_of_length_le hle, List.take_length]
    have K := hide (refCopied_any _ _ w (hv.head (Nat.le_refl _)))
    rw [ht]
    clear hv ht
    go_enter Tryz.func5, Tryz.ntmps5
    go_wp2_with fail
    refine (unhide K).mono ?_
    rintro e w1 ⟨v1, ps, rfl, a1, a2, a3⟩
    have HF : RecsNew w (rs.take rs.length) (.returned v1) w1 := ⟨v1, ps, rfl, a1, a2, a3⟩
    clear K a1 a2 a3
    go_wp2
    go_ret
    exact HF
  · have hmn : min (rs.length : Int) (m : Int) = (m : Int) := by omega
    have K := hide (refCopied_any _ _ w (hv.head (k := m) (by omega)))
    clear hv
    go_enter Tryz.func5, Tryz.ntmps5
    go_wp2_with fail
    refine (unhide K).mono ?_
    rintro e w1 ⟨v1, ps, rfl, a1, a2, a3⟩
    have HF : RecsNew w (rs.take m) (.returned v1) w1 := ⟨v1, ps, rfl, a1, a2, a3⟩
    clear K a1 a2 a3
    go_wp2
    go_ret
    exact HF
end Go.Proofs.YtdnkfnccbmbpaaaGreatDoor
/- What Unpack told, written over: the other answers stay (8.2). -/
namespace Go.Proofs.YtdnkfnccbmbpaaaGreatDoor
open Go.RowKit
open Wi

/-- While the records that were told first are written over. -/
structure Owt (w w1 w4 W : World) (ao : Option Addr) (ps : List (Rec × Value)) : Prop where
  bel : Below w.heap.size w W
  far : ∀ k, w1.heap.size ≤ k → W.heap[k]? = w4.heap[k]?
  rcd : ps.length = 0 ∨ ∃ g cur, ao = some ⟨g, 0, none⟩ ∧ w.heap.size ≤ g ∧ g < w1.heap.size ∧ W.heap[g]? = some (.cells cur 46 (0, 0)) ∧ ∀ i, i < ps.length → i * 8 + 8 ≤ cur.size ∧ cur.getD (i * 8 + 4) undef = (ps.getD i (Cn.none, undef)).2
  lst : ∀ q ∈ ps, q.1.to ≠ [] → ∃ gi capi cur, q.2 = .slice (some ⟨gi, 0, none⟩) q.1.to.length capi ∧ w.heap.size ≤ gi ∧ gi < w1.heap.size ∧ W.heap[gi]? = some (.cells cur 21 (0, 0)) ∧ q.1.to.length ≤ cur.size
section
variable {w w1 w4 W : World} {ao : Option Addr} {ps : List (Rec × Value)} {cap : Nat}
theorem Owt.start (h : Rown w1 w.heap.size (.slice ao ps.length cap) ps) (hb : Below w.heap.size w w4) (hb4 : Below w1.heap.size w1 w4) : Owt w w1 w4 w4 ao ps := by
  refine ⟨hb, fun k _ => rfl, ?_, fun q hq hne => ?_⟩
  · rcases h.1.2 with ⟨_, h0⟩ | ⟨g, cap', cur, hve, hg, hh, hn, hc, hs, ht⟩
    · exact .inl h0
    · obtain ⟨e1, _, e3⟩ := Value.slice.inj hve
      have hlt : g < w1.heap.size := by
        rcases Nat.lt_or_ge g w1.heap.size with h | h
        · exact h
        · rw [Array.getElem?_eq_none h] at hh; cases hh
      refine .inr ⟨g, cur, e1, hg, hlt, by rw [hb4.block g hlt]; exact hh, fun i hi => ⟨by omega, ?_⟩⟩
      have e := rcells_at ps i 4 hi (by omega)
      have hl : (rcell (ps.getD i (Cn.none, undef)))[4]? = some (ps.getD i (Cn.none, undef)).2 := rfl
      rw [hl, ← ht, List.getElem?_take, if_pos (by omega), Array.getElem?_toList] at e
      rw [Array.getD_eq_getD_getElem?, e]
      rfl
  · have hok := h.2 q hq
    rcases hok.row.2 with ⟨_, h0⟩ | ⟨g, cap', cur, hve, hg, hh, hn, hc, hs, ht⟩
    · exact absurd (List.eq_nil_of_length_eq_zero h0) hne
    · have hlt := (hok.2.2.lt g (by rw [hve]; rfl)).2
      exact ⟨g, cap', cur, hve, hg, hlt, by rw [hb4.block g hlt]; exact hh, by omega⟩
theorem Owt.kind (h : Owt w w1 w4 W ao ps) {g : Nat} (hg : ao = some ⟨g, 0, none⟩) (hp : 0 < ps.length) (i : Nat) (v : Value) : Owt w w1 w4 (W.setCell ⟨g, i * 8, none⟩ v) ao ps := by
  rcases h.rcd with h0 | ⟨g', cur, e, g1, g2, hh, hc⟩
  · omega
  · rw [hg] at e
    simp only [Option.some.injEq, Addr.mk.injEq, and_true] at e
    subst e
    refine ⟨below_set h.bel g1 v, fun k hk => by rw [set_other v (by omega)]; exact h.far k hk, .inr ⟨g, _, hg, g1, g2, set_block hh v, fun j hj => ⟨by rw [Array.size_setIfInBounds]; exact (hc j hj).1, ?_⟩⟩, fun q hq hne => ?_⟩
    · rw [← (hc j hj).2]
      simp only [Array.getD_eq_getD_getElem?]
      rw [Array.getElem?_setIfInBounds_ne (by omega)]
    · obtain ⟨gi, capi, cur', e1, e2, e3, e4, e5⟩ := h.lst q hq hne
      refine ⟨gi, capi, cur', e1, e2, e3, ?_, e5⟩
      rw [set_other v (fun e => by subst e; rw [hh] at e4; simp at e4)]
      exact e4
theorem Owt.item (h : Owt w w1 w4 W ao ps) {gi : Nat} {cur : Array Value} (g1 : w.heap.size ≤ gi) (g2 : gi < w1.heap.size) (hh : W.heap[gi]? = some (.cells cur 21 (0, 0))) (j : Nat) (v : Value) : Owt w w1 w4 (W.setCell ⟨gi, j, none⟩ v) ao ps := by
  refine ⟨below_set h.bel g1 v, fun k hk => by rw [set_other v (by omega)]; exact h.far k hk, ?_, fun q hq hne => ?_⟩
  · rcases h.rcd with h0 | ⟨g', cur', e, k1, k2, hh', hc⟩
    · exact .inl h0
    · refine .inr ⟨g', cur', e, k1, k2, ?_, hc⟩
      rw [set_other v (fun e => by subst e; rw [hh] at hh'; simp at hh')]
      exact hh'
  · obtain ⟨g', capi, cur', e1, e2, e3, e4, e5⟩ := h.lst q hq hne
    by_cases hg : g' = gi
    · subst hg
      rw [hh] at e4
      simp only [Option.some.injEq, Obj.cells.injEq, and_true] at e4
      subst e4
      exact ⟨g', capi, _, e1, e2, e3, set_block hh v, by rw [Array.size_setIfInBounds]; exact e5⟩
    · exact ⟨g', capi, cur', e1, e2, e3, by rw [set_other v hg]; exact e4, e5⟩
/-- The other answers stay. -/
theorem Owt.other (h : Owt w w1 w4 W ao ps) {v : Value} {qs : List (Rec × Value)} {B : Nat} (hB : w1.heap.size ≤ B) (hr : Rown w4 B v qs) : Rown W B v qs :=
  ⟨own_keep hr.1 fun g hg => h.far g (Nat.le_trans hB (hr.1.lt g hg).1), fun p hp => (hr.2 p hp).keep fun g hg => h.far g (Nat.le_trans hB ((hr.2 p hp).2.2.lt g hg).1)⟩
end
theorem fit_of {ps qs : List (Rec × Value)} (h : ps.map (·.1) = qs.map (·.1)) (hf : ∀ p ∈ ps, RecFit p.1) : ∀ p ∈ qs, RecFit p.1 := fun p hp => by
  have : p.1 ∈ ps.map (·.1) := by rw [h]; exact List.mem_map.2 ⟨p, hp, rfl⟩
  obtain ⟨q, hq, e⟩ := List.mem_map.1 this
  rw [← e]
  exact hf q hq
/-- What is unpacked is of a fit kind, and not too much. -/
theorem unpack_fit {zs : List Int} (hb : Byt zs) : (Pk.unpack zs).1.length ≤ 4096 ∧ ∀ r ∈ (Pk.unpack zs).1, RecFit r := by
  unfold Pk.unpack
  by_cases h1 : (Pk.framed zs).2 = 0
  · rw [if_neg (by simpa using h1)]
    have hbt : Byt (zs.take (zs.length - 4)) := fun z hz => hb z (List.mem_of_mem_take hz)
    by_cases h2 : (Pk.read (zs.take (zs.length - 4))).2.2 = 0
    · rw [if_neg (by simpa using h2)]
      by_cases h3 : (Cn.check6 (Pk.read (zs.take (zs.length - 4))).1.1).2 = 0
      · rw [if_neg (by simpa using h3)]
        have hf := read_facts hbt h2
        exact hf.2
      · rw [if_pos (by simpa using h3)]; exact ⟨by simp, fun r hr => by cases hr⟩
    · rw [if_pos (by simpa using h2)]; exact ⟨by simp, fun r hr => by cases hr⟩
  · rw [if_pos (by simpa using h1)]; exact ⟨by simp, fun r hr => by cases hr⟩
end Go.Proofs.YtdnkfnccbmbpaaaGreatDoor
/- unpacks: what is unpacked is what the document says, and its caller's own (8.2). -/
namespace Go.Proofs.YtdnkfnccbmbpaaaGreatDoor
open Go.RowKit
open Wi

set_option maxRecDepth 8000 in
set_option maxHeartbeats 8000000 in
theorem unpacks_any (v : Value) (zs : List Int) (w : World) (hgl : Glob w) (hs : Sl w v zs) : Calls Tryz.prog 11 #[v] w (Tells8 w true) := by
  have K1 := hide (unpack_any v zs w hgl hs)
  have KD : Hid (∀ W, Below w.heap.size w W → Calls Tryz.prog 22 #[v] W (UnpB W (Pk.unpack zs))) := fun W h => docUnpack_any v zs W (hs.below h)
  have KP : Hid (∀ W, Below w.heap.size w W → Calls Tryz.prog 20 #[v] W (UnpB W (Pk.unpack zs))) := fun W h => unpack_any v zs W (hgl.on h) (hs.below h)
  obtain ⟨hl4, hft⟩ := unpack_fit hs.1
  have HRC : Hid (∀ W B u (qs : List (Rec × Value)), Rown W B u qs → qs.map (·.1) = (Pk.unpack zs).1 → Rcs W u (Pk.unpack zs).1) := fun W B u qs h e => by
    have hl : qs.length ≤ 4096 := by rw [← e, List.length_map] at hl4; exact hl4
    rw [← e]
    refine h.rcs (by omega) (fun p hp => hft _ ?_)
    rw [← e]
    exact List.mem_map.2 ⟨p, hp, rfl⟩
  obtain ⟨bo, bc, hve, _, _⟩ := hs.shape
  clear hs hgl hft
  generalize Pk.unpack zs = X at *
  obtain ⟨rs, xa, xe⟩ := X
  simp only at HRC hl4
  generalize zs.length = m at *
  subst hve
  go_enter Tryz.func11, Tryz.ntmps11
  go_wp2_with fail
  refine (unhide K1).mono ?_
  rintro e1 w1 ⟨v1, ps, rfl, hr1, hp1, hb1⟩
  simp only at hp1 ⊢
  have K2 := hide ((unhide KD) w1 hb1)
  have HB1 := hide hb1
  have HR1 := hide hr1
  obtain ⟨ao, cap, hv1, hcap⟩ := hr1.shape
  subst hv1
  clear K1 KD hr1 hb1
  go_wp2_with fail
  refine (unhide K2).mono ?_
  rintro e2 w2 ⟨v2, ps2, rfl, hr2, hp2, hb2⟩
  simp only at hp2 ⊢
  have HB2 := hide (bthen (unhide HB1) hb2)
  have HB12 := hide hb2
  have K3 := hide ((unhide KP) w2 (unhide HB2))
  have HR2 := hide hr2
  obtain ⟨ao2, cap2, hv2, hcap2⟩ := hr2.shape
  subst hv2
  clear K2 KP hr2 hb2
  go_wp2_with fail
  refine (unhide K3).mono ?_
  rintro e3 w3 ⟨v3, ps3, rfl, hr3, hp3, hb3⟩
  simp only at hp3 ⊢
  have HB3 := hide (bthen (unhide HB2) hb3)
  have HB13 := hide (bthen (unhide HB12) hb3)
  have HR3 := hide hr3
  have HS2 := hide (unhide HB12).size
  obtain ⟨ao3, cap3, hv3, hcap3⟩ := hr3.shape
  subst hv3
  have HR2c := hide ((unhide HR2).below hb3)
  have HR1c := hide (((unhide HR1).below (unhide HB12)).below hb3)
  have J1 := hide (sameRecs_eq _ _ rs w3 ((unhide HRC) _ _ _ _ (unhide HR1c) hp1) ((unhide HRC) _ _ _ _ (unhide HR2c) hp2))
  clear K3 hr3 hb3 HR1c HR2
  go_wp2_with fail
  refine (unhide J1).mono ?_
  rintro e4 w4 ⟨rfl, hb4⟩
  have hB4 := bthen (unhide HB3) hb4
  have hB14 := bthen (unhide HB13) hb4
  have HR2d := hide ((unhide HR2c).below hb4)
  have HR3d := hide ((unhide HR3).below hb4)
  have HW0 := hide (Owt.start (unhide HR1) hB4 hB14)
  have HEND : Hid (∀ W, Owt w w1 w4 W ao ps → Below w.heap.size w W ∧ Calls Tryz.prog 9 #[.slice ao3 ps3.length cap3, .slice ao2 ps2.length cap2] W (BoolB W true)) := fun W h => ⟨h.bel, sameRecs_eq _ _ rs W ((unhide HRC) _ _ _ _ (h.other (unhide HS2) (unhide HR3d)) hp3) ((unhide HRC) _ _ _ _ (h.other (Nat.le_refl _) (unhide HR2d)) hp2)⟩
  have hpl : ps.length ≤ 4096 := by rw [← hp1, List.length_map] at hl4; exact hl4
  have HTO : Hid (∀ k, k < ps.length → Ok .i32 21 w1 w.heap.size (ps.getD k (Cn.none, undef)).2 (ps.getD k (Cn.none, undef)).1.to ∧ ps.getD k (Cn.none, undef) ∈ ps) := fun k hk => by
    have hm : ps.getD k (Cn.none, undef) ∈ ps := by
      rw [List.getD_eq_getElem?_getD, List.getElem?_eq_getElem hk]
      exact List.getElem_mem hk
    exact ⟨(unhide HR1).2 _ hm, hm⟩
  clear J1 hb4 HR2c HR3 hB4 hB14 HR1 HRC HB1 HB2 HB3 HB12 HB13 HR2d HR3d HS2 hp1 hp2 hp3 hl4
  have bx1 : (xa != xa) = false := bne_self_eq_false _
  have bx2 : (xe != xe) = false := bne_self_eq_false _
  go_wp2
  go_loopw [12, 13] (fun iv _ wi => ∃ k : Nat, iv = .int .i64 k ∧ k ≤ ps.length ∧ Owt w w1 w4 wi ao ps) (fun iv _ _ => ps.length - (intOf iv).toNat)
  case atStart => exact ⟨0, rfl, by omega, unhide HW0⟩
  case round =>
    obtain ⟨k, rfl, hk, hW⟩ := hrel
    clear HW0
    by_cases hlt : k < ps.length
    · clear HEND
      obtain ⟨hok, hmem⟩ := (unhide HTO) k hlt
      have hk8 : (k : Int) < (ps.length : Int) := by omega
      rcases hW.rcd with h0 | ⟨g, cur, hao, hg1, hg2, hh, hcur⟩
      · omega
      obtain ⟨vao, vcap, hvt, hvc, _⟩ := hok.sk.shape
      have HWK := hide (fun W (h : Owt w w1 w4 W ao ps) => h.kind hao (by omega) k (.int .i64 (-9)))
      have HCL : Hid (∀ W, Owt w w1 w4 W ao ps → W.cell? ⟨g, k * 8 + 4, none⟩ = some (.slice vao (ps.getD k (Cn.none, undef)).1.to.length vcap) ∧ (∃ u, W.cell? ⟨g, k * 8, none⟩ = some u) ∧ W.frozen? ⟨g, k * 8, none⟩ = false) := fun W h => by
        rcases h.rcd with h0 | ⟨g', cur', hao', _, _, hh', hcur'⟩
        · omega
        · rw [hao] at hao'
          simp only [Option.some.injEq, Addr.mk.injEq, and_true] at hao'
          subst hao'
          obtain ⟨q1, q2⟩ := hcur' k hlt
          refine ⟨?_, ⟨_, cell_of hh' (by omega)⟩, frozen_of hh'⟩
          rw [cell_of hh' (by omega), q2, hvt]
      have HIT : Hid (∀ W j, Owt w w1 w4 W ao ps → j < (ps.getD k (Cn.none, undef)).1.to.length → ∃ gi, vao = some ⟨gi, 0, none⟩ ∧ (∃ u, W.cell? ⟨gi, j, none⟩ = some u) ∧ W.frozen? ⟨gi, j, none⟩ = false ∧ Owt w w1 w4 (W.setCell ⟨gi, j, none⟩ (.int .i32 (-9))) ao ps) := fun W j h hj => by
        obtain ⟨gi, capi, cur', e1, e2, e3, e4, e5⟩ := h.lst _ hmem (fun e => by rw [e] at hj; simp at hj)
        rw [hvt] at e1
        obtain ⟨e6, _, _⟩ := Value.slice.inj e1
        exact ⟨gi, e6, ⟨_, cell_of e4 (by omega)⟩, frozen_of e4, h.item e2 e3 e4 j _⟩
      have hnl : (ps.getD k (Cn.none, undef)).1.to.length ≤ 140737488355328 := by have := hok.2.1; rw [List.length_map] at this; exact this
      subst hao
      have HW := hide hW
      clear hW hok hmem hh hcur hvt
      generalize (ps.getD k (Cn.none, undef)).1.to.length = nl at *
      go_wp2
      go_loopw [13] (fun jv wi => ∃ j : Nat, jv = .int .i64 j ∧ j ≤ nl ∧ Owt w w1 w4 wi (some ⟨g, 0, none⟩) ps) (fun jv _ => nl - (intOf jv).toNat)
      case atStart => exact ⟨0, rfl, by omega, unhide HW⟩
      case round =>
        obtain ⟨j, rfl, hj, hW⟩ := hrel
        clear HW
        obtain ⟨c4, ⟨u0, c0⟩, f0⟩ := (unhide HCL) _ hW
        by_cases hjl : j < nl
        · obtain ⟨gi, hvao, ⟨u1, cj⟩, fj, hN⟩ := (unhide HIT) _ j hW hjl
          subst hvao
          have HN := hide hN
          have hj8 : (j : Int) < (nl : Int) := by omega
          clear hN hW HCL HIT HWK
          go_wp2
          go_roundw
          case rel => exact ⟨j + 1, by go_num, by omega, unhide HN⟩
          case measure => simp [intOf]; omega
        · obtain rfl : j = nl := by omega
          have HN := hide ((unhide HWK) _ hW)
          clear hW HCL HIT HWK
          go_wp2
          go_roundw
          case rel => exact ⟨k + 1, by go_num, by omega, unhide HN⟩
          case measure => simp [intOf]; omega
    · obtain rfl : k = ps.length := by omega
      obtain ⟨hbW, JS⟩ := (unhide HEND) _ hW
      have HJ := hide JS
      clear HEND HTO hW JS
      go_wp2_with fail
      refine (unhide HJ).mono ?_
      rintro e6 w6 ⟨rfl, hb6⟩
      have HF : Tells8 w true (.returned (.bool true)) w6 := ⟨rfl, bthen hbW hb6⟩
      clear HJ hb6
      go_wp2
      go_ret
      exact HF
end Go.Proofs.YtdnkfnccbmbpaaaGreatDoor
/- PackUnpacks. -/
namespace Go.Proofs.YtdnkfnccbmbpaaaGreatDoor
open Go.RowKit
open Wi

/-- Bytes copied into memory of the call's own. -/
theorem copy_own {w w2 : World} {v2 : Value} {zs : List Int} (hb : Byt zs) (hl : zs.length ≤ 1000000000) (hr : w2.ownsRow w.heap.size 5 1 v2 zs.length (zs.map (Value.int .u8))) (hg : w.grownBy w2 (Value.slice none 0 0).ownBlock) : Own w2 w.heap.size v2 zs ∧ Below w.heap.size w w2 :=
  ⟨⟨hb, by omega, hr⟩, (Below.refl _ _).grown hg (Nat.le_refl _) (fun g hg' => by cases hg')⟩
set_option maxRecDepth 8000 in
set_option maxHeartbeats 8000000 in
theorem seal_any (v : Value) (ys : List Int) (w : World) (hs : Sl w v ys) (hl : ys.length ≤ 2000000) : Calls Tryz.prog 10 #[v] w fun e w' => ∃ u, e = .returned u ∧ Own w' w.heap.size u (ys ++ Pk.sum4 ys) ∧ Below w.heap.size w w' := by
  obtain ⟨i0, hi, hz0, hz1, hz2⟩ := info_parts Tryz.info5
  have HBY := hide hs.1
  have KS : Hid (∀ W, Below w.heap.size w W → Calls Tryz.prog 19 #[v] W fun e w' => e = .returned (.int .u32 (Crc.sum ys : Nat)) ∧ w' = W) := fun W h => refSum_any v ys W (hs.below h)
  have HSL := hide (Crc.sum_lt _ hs.1)
  have HS4 : Hid (Pk.sum4 ys = Pk.le4 (Crc.sum ys)) := rfl
  rw [unhide HS4]
  have hs1 : ((Crc.sum ys : Nat) : Int) < 4294967296 := by have := unhide HSL; omega
  clear HSL HS4
  generalize Crc.sum ys = s at *
  have hs0 : (0 : Int) ≤ (s : Int) := by omega
  rcases hs.src with ⟨rfl, rfl⟩ | ⟨ad, cap, rfl, hsrc⟩
  · have HR0 : Hid (w.ownsRow w.heap.size 5 1 (.slice none 0 0) 0 []) := World.ownsRow_nil _ _ _ _
    have HO : Hid (Own w w.heap.size (.slice none 0 0) ([] : List Int)) := ⟨unhide HBY, by simp, unhide HR0⟩
    clear hs HBY
    generalize ([] : List Int) = xs at *
    go_enter Tryz.func10, Tryz.ntmps10
    go_wp2_with (at_builtin; refine wpList_append_own_none rfl (.tmp 6) (.tmp 7) 24 rfl w.heap.size 5 i0 1 Tryz.underlying24 hi _ _ _ rfl (unhide HR0) rfl ?_)
    refine ((unhide KS) _ (Below.refl _ _)).mono ?_
    rintro e3 w3 ⟨rfl, hw3⟩
    subst w3
    have hown := unhide HO
    have hbel := Below.refl w.heap.size w
    clear KS HR0 HO
    have hxl : xs.length ≤ 2000000 := hl
    go_wp2
    go_loopw [3, 5] (fun bw jv wi => ∃ j : Nat, jv = .int .i64 j ∧ j ≤ 4 ∧ Own wi w.heap.size bw (xs ++ (Pk.le4 s).take j) ∧ Below w.heap.size w wi) (fun _ jv _ => 4 - (intOf jv).toNat)
    case atStart => exact ⟨0, rfl, by omega, by simpa using hown, hbel⟩
    case round =>
      obtain ⟨j, rfl, hj, hown', hbel'⟩ := hrel
      clear hown hbel
      by_cases hlt : j < 4
      · have hand := fun x h0 h1 => land255 x h0 h1
        have HM : Hid (∀ o, (wr.alloc o).ownsRow w.heap.size 5 1 u3 (xs ++ (Pk.le4 s).take j).length ((xs ++ (Pk.le4 s).take j).map (Value.int .u8))) := fun o => hown'.2.2.alloc o
        have HL4 : Hid ((xs ++ (Pk.le4 s).take j).length = xs.length + j) := by show _ = _; rw [List.length_append, List.length_take]; have : (Pk.le4 s).length = 4 := rfl; omega
        have hj4 : j = 0 ∨ j = 1 ∨ j = 2 ∨ j = 3 := by omega
        have hqm : (xs ++ (Pk.le4 s).take j).length ≤ 2000004 := by rw [unhide HL4]; omega
        generalize hqs : xs ++ (Pk.le4 s).take j = qs at *
        have HQS := hide hqs
        have hsz := hbel'.size
        have HMO : Hid (∀ v8 w8 c o, 0 ≤ c ∧ c ≤ 255 → w8.ownsRow w.heap.size 5 1 v8 (qs.length + 1) (qs.map (Value.int .u8) ++ [.int .u8 c]) → (wr.alloc o).grownBy w8 u3.ownBlock → Own w8 w.heap.size v8 (qs ++ [c]) ∧ Below w.heap.size w w8) := fun v8 w8 c o hc hr hg => own_snoc hbel' hown' (by omega) hc hr hg
        clear hqs hlt hj hown' hbel' HL4
        rcases hj4 with rfl | rfl | rfl | rfl
        · have HN : Hid (qs ++ [(s : Int) % 256] = xs ++ (Pk.le4 s).take 1) := by
            show _ = _
            rw [← unhide HQS, show (s : Int) % 256 = ((s % 256 : Nat) : Int) by omega, List.append_assoc]
            rfl
          go_wp2_with (at_builtin; refine wpList_append_own _ rfl (.tmp 15) (.tmp 23) 24 rfl w.heap.size 5 i0 (.int .u8 0) 1 1 Tryz.underlying24 hi hz0 hz1 hz2 rfl (by decide) _ _ _ rfl ((unhide HM) _) ⟨wr.heap.size, 0, none⟩ 1 1 [_] rfl rfl (one_new _ _ _ _ rfl) (int_one _ _) (by unfold maxLen; omega) (by omega) (by simp; omega) ?_)
          intro v8 w8 hr8 hg8 _
          have R := (unhide HMO) v8 w8 _ _ (by omega) hr8 hg8
          rw [unhide HN] at R
          have HR := hide R
          clear R hr8 hg8 HMO HM HQS HN hand
          go_wp2
          go_roundw
          case rel => exact ⟨1, by go_num, by omega, (unhide HR).1, (unhide HR).2⟩
          case measure => simp [intOf]
        · have HN : Hid (qs ++ [(s : Int) / 256 % 256] = xs ++ (Pk.le4 s).take 2) := by
            show _ = _
            rw [← unhide HQS, show (s : Int) / 256 % 256 = ((s / 256 % 256 : Nat) : Int) by omega, List.append_assoc]
            rfl
          go_wp2_with (at_builtin; refine wpList_append_own _ rfl (.tmp 15) (.tmp 23) 24 rfl w.heap.size 5 i0 (.int .u8 0) 1 1 Tryz.underlying24 hi hz0 hz1 hz2 rfl (by decide) _ _ _ rfl ((unhide HM) _) ⟨wr.heap.size, 0, none⟩ 1 1 [_] rfl rfl (one_new _ _ _ _ rfl) (int_one _ _) (by unfold maxLen; omega) (by omega) (by simp; omega) ?_)
          intro v8 w8 hr8 hg8 _
          have R := (unhide HMO) v8 w8 _ _ (by omega) hr8 hg8
          rw [show bits BinOp.and IntKind.u32 ((s : Int) / 256) 255 % 256 = (s : Int) / 256 % 256 by rw [land255 _ (by omega) (by omega)]; omega] at R
          rw [unhide HN] at R
          have HR := hide R
          clear R hr8 hg8 HMO HM HQS HN hand
          go_wp2
          go_roundw
          case rel => exact ⟨2, by go_num, by omega, (unhide HR).1, (unhide HR).2⟩
          case measure => simp [intOf]
        · have HN : Hid (qs ++ [(s : Int) / 65536 % 256] = xs ++ (Pk.le4 s).take 3) := by
            show _ = _
            rw [← unhide HQS, show (s : Int) / 65536 % 256 = ((s / 65536 % 256 : Nat) : Int) by omega, List.append_assoc]
            rfl
          go_wp2_with (at_builtin; refine wpList_append_own _ rfl (.tmp 15) (.tmp 23) 24 rfl w.heap.size 5 i0 (.int .u8 0) 1 1 Tryz.underlying24 hi hz0 hz1 hz2 rfl (by decide) _ _ _ rfl ((unhide HM) _) ⟨wr.heap.size, 0, none⟩ 1 1 [_] rfl rfl (one_new _ _ _ _ rfl) (int_one _ _) (by unfold maxLen; omega) (by omega) (by simp; omega) ?_)
          intro v8 w8 hr8 hg8 _
          have R := (unhide HMO) v8 w8 _ _ (by omega) hr8 hg8
          rw [show bits BinOp.and IntKind.u32 ((s : Int) / 65536) 255 % 256 = (s : Int) / 65536 % 256 by rw [land255 _ (by omega) (by omega)]; omega] at R
          rw [unhide HN] at R
          have HR := hide R
          clear R hr8 hg8 HMO HM HQS HN hand
          go_wp2
          go_roundw
          case rel => exact ⟨3, by go_num, by omega, (unhide HR).1, (unhide HR).2⟩
          case measure => simp [intOf]
        · have HN : Hid (qs ++ [(s : Int) / 16777216 % 256] = xs ++ (Pk.le4 s).take 4) := by
            show _ = _
            rw [← unhide HQS, show (s : Int) / 16777216 % 256 = ((s / 16777216 % 256 : Nat) : Int) by omega, List.append_assoc]
            rfl
          go_wp2_with (at_builtin; refine wpList_append_own _ rfl (.tmp 15) (.tmp 23) 24 rfl w.heap.size 5 i0 (.int .u8 0) 1 1 Tryz.underlying24 hi hz0 hz1 hz2 rfl (by decide) _ _ _ rfl ((unhide HM) _) ⟨wr.heap.size, 0, none⟩ 1 1 [_] rfl rfl (one_new _ _ _ _ rfl) (int_one _ _) (by unfold maxLen; omega) (by omega) (by simp; omega) ?_)
          intro v8 w8 hr8 hg8 _
          have R := (unhide HMO) v8 w8 _ _ (by omega) hr8 hg8
          rw [show bits BinOp.and IntKind.u32 ((s : Int) / 16777216) 255 % 256 = (s : Int) / 16777216 % 256 by rw [land255 _ (by omega) (by omega)]; omega] at R
          rw [unhide HN] at R
          have HR := hide R
          clear R hr8 hg8 HMO HM HQS HN hand
          go_wp2
          go_roundw
          case rel => exact ⟨4, by go_num, by omega, (unhide HR).1, (unhide HR).2⟩
          case measure => simp [intOf]
      · obtain rfl : j = 4 := by omega
        have e4 : (Pk.le4 s).take 4 = Pk.le4 s := rfl
        rw [e4] at hown'
        have HR := hide (And.intro hown' hbel')
        clear hown' hbel'
        go_wp2
        go_ret
        exact ⟨_, rfl, (unhide HR).1, (unhide HR).2⟩
  · have HS := hide hsrc
    have H1 := hide (ints_one .u8 ys)
    have hmp : (ys.map (Value.int .u8)).length = ys.length := List.length_map _
    have HR0 : Hid (w.ownsRow w.heap.size 5 1 (.slice none 0 0) 0 []) := World.ownsRow_nil _ _ _ _
    have HMORE : Hid (∀ v2 w2, w2.ownsRow w.heap.size 5 1 v2 ys.length (ys.map (Value.int .u8)) → w.grownBy w2 (Value.slice none 0 0).ownBlock → Own w2 w.heap.size v2 ys ∧ Below w.heap.size w w2) := fun v2 w2 h1 h2 => copy_own (unhide HBY) (by omega) h1 h2
    clear hs hsrc HBY
    generalize ys.map (Value.int .u8) = us at *
    generalize hmm : ys.length = mm at *
    go_enter Tryz.func10, Tryz.ntmps10
    go_wp2_with (at_builtin; refine wpList_append_own _ rfl (.tmp 6) (.tmp 7) 24 rfl w.heap.size 5 i0 (.int .u8 0) 1 1 Tryz.underlying24 hi hz0 hz1 hz2 rfl (by decide) _ _ _ rfl (unhide HR0) ad mm cap us rfl (by rw [hmp]; simp) (unhide HS) (unhide H1) (by unfold maxLen; omega) (by omega) (by omega) ?_)
    intro v2 w2 hr2 hg2 _
    obtain ⟨hown, hbel⟩ := (unhide HMORE) v2 w2 hr2 hg2
    clear HMORE hr2 hg2 HS H1 HR0 hmp
    go_wp2_with fail
    refine ((unhide KS) _ hbel).mono ?_
    rintro e3 w3 ⟨rfl, hw3⟩
    subst w3
    clear KS
    have hxl : ys.length ≤ 2000000 := by omega
    clear hmm
    go_wp2
    go_loopw [3, 5] (fun bw jv wi => ∃ j : Nat, jv = .int .i64 j ∧ j ≤ 4 ∧ Own wi w.heap.size bw (ys ++ (Pk.le4 s).take j) ∧ Below w.heap.size w wi) (fun _ jv _ => 4 - (intOf jv).toNat)
    case atStart => exact ⟨0, rfl, by omega, by simpa using hown, hbel⟩
    case round =>
      obtain ⟨j, rfl, hj, hown', hbel'⟩ := hrel
      clear hown hbel
      by_cases hlt : j < 4
      · have hand := fun x h0 h1 => land255 x h0 h1
        have HM : Hid (∀ o, (wr.alloc o).ownsRow w.heap.size 5 1 u3 (ys ++ (Pk.le4 s).take j).length ((ys ++ (Pk.le4 s).take j).map (Value.int .u8))) := fun o => hown'.2.2.alloc o
        have HL4 : Hid ((ys ++ (Pk.le4 s).take j).length = ys.length + j) := by show _ = _; rw [List.length_append, List.length_take]; have : (Pk.le4 s).length = 4 := rfl; omega
        have hj4 : j = 0 ∨ j = 1 ∨ j = 2 ∨ j = 3 := by omega
        have hqm : (ys ++ (Pk.le4 s).take j).length ≤ 2000004 := by rw [unhide HL4]; omega
        generalize hqs : ys ++ (Pk.le4 s).take j = qs at *
        have HQS := hide hqs
        have hsz := hbel'.size
        have HMO : Hid (∀ v8 w8 c o, 0 ≤ c ∧ c ≤ 255 → w8.ownsRow w.heap.size 5 1 v8 (qs.length + 1) (qs.map (Value.int .u8) ++ [.int .u8 c]) → (wr.alloc o).grownBy w8 u3.ownBlock → Own w8 w.heap.size v8 (qs ++ [c]) ∧ Below w.heap.size w w8) := fun v8 w8 c o hc hr hg => own_snoc hbel' hown' (by omega) hc hr hg
        clear hqs hlt hj hown' hbel' HL4
        rcases hj4 with rfl | rfl | rfl | rfl
        · have HN : Hid (qs ++ [(s : Int) % 256] = ys ++ (Pk.le4 s).take 1) := by
            show _ = _
            rw [← unhide HQS, show (s : Int) % 256 = ((s % 256 : Nat) : Int) by omega, List.append_assoc]
            rfl
          go_wp2_with (at_builtin; refine wpList_append_own _ rfl (.tmp 15) (.tmp 23) 24 rfl w.heap.size 5 i0 (.int .u8 0) 1 1 Tryz.underlying24 hi hz0 hz1 hz2 rfl (by decide) _ _ _ rfl ((unhide HM) _) ⟨wr.heap.size, 0, none⟩ 1 1 [_] rfl rfl (one_new _ _ _ _ rfl) (int_one _ _) (by unfold maxLen; omega) (by omega) (by simp; omega) ?_)
          intro v8 w8 hr8 hg8 _
          have R := (unhide HMO) v8 w8 _ _ (by omega) hr8 hg8
          rw [unhide HN] at R
          have HR := hide R
          clear R hr8 hg8 HMO HM HQS HN hand
          go_wp2
          go_roundw
          case rel => exact ⟨1, by go_num, by omega, (unhide HR).1, (unhide HR).2⟩
          case measure => simp [intOf]
        · have HN : Hid (qs ++ [(s : Int) / 256 % 256] = ys ++ (Pk.le4 s).take 2) := by
            show _ = _
            rw [← unhide HQS, show (s : Int) / 256 % 256 = ((s / 256 % 256 : Nat) : Int) by omega, List.append_assoc]
            rfl
          go_wp2_with (at_builtin; refine wpList_append_own _ rfl (.tmp 15) (.tmp 23) 24 rfl w.heap.size 5 i0 (.int .u8 0) 1 1 Tryz.underlying24 hi hz0 hz1 hz2 rfl (by decide) _ _ _ rfl ((unhide HM) _) ⟨wr.heap.size, 0, none⟩ 1 1 [_] rfl rfl (one_new _ _ _ _ rfl) (int_one _ _) (by unfold maxLen; omega) (by omega) (by simp; omega) ?_)
          intro v8 w8 hr8 hg8 _
          have R := (unhide HMO) v8 w8 _ _ (by omega) hr8 hg8
          rw [show bits BinOp.and IntKind.u32 ((s : Int) / 256) 255 % 256 = (s : Int) / 256 % 256 by rw [land255 _ (by omega) (by omega)]; omega] at R
          rw [unhide HN] at R
          have HR := hide R
          clear R hr8 hg8 HMO HM HQS HN hand
          go_wp2
          go_roundw
          case rel => exact ⟨2, by go_num, by omega, (unhide HR).1, (unhide HR).2⟩
          case measure => simp [intOf]
        · have HN : Hid (qs ++ [(s : Int) / 65536 % 256] = ys ++ (Pk.le4 s).take 3) := by
            show _ = _
            rw [← unhide HQS, show (s : Int) / 65536 % 256 = ((s / 65536 % 256 : Nat) : Int) by omega, List.append_assoc]
            rfl
          go_wp2_with (at_builtin; refine wpList_append_own _ rfl (.tmp 15) (.tmp 23) 24 rfl w.heap.size 5 i0 (.int .u8 0) 1 1 Tryz.underlying24 hi hz0 hz1 hz2 rfl (by decide) _ _ _ rfl ((unhide HM) _) ⟨wr.heap.size, 0, none⟩ 1 1 [_] rfl rfl (one_new _ _ _ _ rfl) (int_one _ _) (by unfold maxLen; omega) (by omega) (by simp; omega) ?_)
          intro v8 w8 hr8 hg8 _
          have R := (unhide HMO) v8 w8 _ _ (by omega) hr8 hg8
          rw [show bits BinOp.and IntKind.u32 ((s : Int) / 65536) 255 % 256 = (s : Int) / 65536 % 256 by rw [land255 _ (by omega) (by omega)]; omega] at R
          rw [unhide HN] at R
          have HR := hide R
          clear R hr8 hg8 HMO HM HQS HN hand
          go_wp2
          go_roundw
          case rel => exact ⟨3, by go_num, by omega, (unhide HR).1, (unhide HR).2⟩
          case measure => simp [intOf]
        · have HN : Hid (qs ++ [(s : Int) / 16777216 % 256] = ys ++ (Pk.le4 s).take 4) := by
            show _ = _
            rw [← unhide HQS, show (s : Int) / 16777216 % 256 = ((s / 16777216 % 256 : Nat) : Int) by omega, List.append_assoc]
            rfl
          go_wp2_with (at_builtin; refine wpList_append_own _ rfl (.tmp 15) (.tmp 23) 24 rfl w.heap.size 5 i0 (.int .u8 0) 1 1 Tryz.underlying24 hi hz0 hz1 hz2 rfl (by decide) _ _ _ rfl ((unhide HM) _) ⟨wr.heap.size, 0, none⟩ 1 1 [_] rfl rfl (one_new _ _ _ _ rfl) (int_one _ _) (by unfold maxLen; omega) (by omega) (by simp; omega) ?_)
          intro v8 w8 hr8 hg8 _
          have R := (unhide HMO) v8 w8 _ _ (by omega) hr8 hg8
          rw [show bits BinOp.and IntKind.u32 ((s : Int) / 16777216) 255 % 256 = (s : Int) / 16777216 % 256 by rw [land255 _ (by omega) (by omega)]; omega] at R
          rw [unhide HN] at R
          have HR := hide R
          clear R hr8 hg8 HMO HM HQS HN hand
          go_wp2
          go_roundw
          case rel => exact ⟨4, by go_num, by omega, (unhide HR).1, (unhide HR).2⟩
          case measure => simp [intOf]
      · obtain rfl : j = 4 := by omega
        have e4 : (Pk.le4 s).take 4 = Pk.le4 s := rfl
        rw [e4] at hown'
        have HR := hide (And.intro hown' hbel')
        clear hown' hbel'
        go_wp2
        go_ret
        exact ⟨_, rfl, (unhide HR).1, (unhide HR).2⟩
set_option maxRecDepth 8000 in
set_option maxHeartbeats 8000000 in
theorem punpacks_any (v : Value) (zs : List Int) (w : World) (hgl : Glob w) (hs : Sl w v zs) (hl : zs.length ≤ 1048576) : Calls Tryz.prog 4 #[v] w (Tells8 w true) := by
  obtain ⟨i0, hi, hz0, hz1, hz2⟩ := info_parts Tryz.info5
  have HBY := hide hs.1
  have HGL : Hid (∀ W, Below w.heap.size w W → Glob W) := fun W h => hgl.on h
  have HV : Hid (∀ W, Below w.heap.size w W → Sl W v zs) := fun W h => hs.below h
  have KT : Hid (∀ W, Below w.heap.size w W → Calls Tryz.prog 8 #[] W (Tells8 W true)) := fun W h => told8_any W (hgl.on h)
  have KN : Hid (∀ W u xs, Below w.heap.size w W → Sl W u xs → Calls Tryz.prog 11 #[u] W (Tells8 W true)) := fun W u xs h h2 => unpacks_any u xs W (hgl.on h) h2
  have KL : Hid (∀ W u xs, Sl W u xs → xs.length ≤ 2000000 → Calls Tryz.prog 10 #[u] W fun e w' => ∃ u', e = .returned u' ∧ Own w' W.heap.size u' (xs ++ Pk.sum4 xs) ∧ Below W.heap.size W w') := fun W u xs h h2 => seal_any u xs W h h2
  have HEAD : Hid (∀ W ao n cap k, Sl W (.slice ao n cap) zs → k ≤ n → n ≤ cap → Sl W (.slice ao k cap) (zs.take k)) := fun W ao n cap k h h1 h2 => h.head h1 h2
  rcases hs.src with ⟨rfl, rfl⟩ | ⟨ad, cap, rfl, hsrc⟩
  · have HR0 : Hid (w.ownsRow w.heap.size 5 1 (.slice none 0 0) 0 []) := World.ownsRow_nil _ _ _ _
    clear hs hgl KL HEAD HGL HBY
    go_enter Tryz.func4, Tryz.ntmps4
    go_wp2_with (at_builtin; refine wpList_append_own_none rfl (.tmp 5) (.tmp 6) 24 rfl w.heap.size 5 i0 1 Tryz.underlying24 hi _ _ _ rfl (unhide HR0) rfl ?_)
    clear HR0
    try go_wp2_with fail
    refine ((unhide KT) _ (Below.refl _ _)).mono ?_
    rintro e2 w2 ⟨rfl, hb2⟩
    have K2 := hide ((unhide KN) w2 _ _ hb2 ((unhide HV) w2 hb2))
    have HB2 := hide hb2
    clear KT KN hb2
    go_wp2_with fail
    refine (unhide K2).mono ?_
    rintro e3 w3 ⟨rfl, hb3⟩
    have hB3 := bthen (unhide HB2) hb3
    have cv := ((unhide HV) w3 hB3).conv
    have HF : Tells8 w true (.returned (.bool true)) w3 := ⟨rfl, hB3⟩
    clear K2 hb3 HB2 HV hB3
    generalize strOfNums ([] : List Int) = sn at *
    go_wp2
    go_ret
    exact HF
  · have HS := hide hsrc
    have H1 := hide (ints_one .u8 zs)
    have hmp : (zs.map (Value.int .u8)).length = zs.length := List.length_map _
    have HR0 : Hid (w.ownsRow w.heap.size 5 1 (.slice none 0 0) 0 []) := World.ownsRow_nil _ _ _ _
    have HMORE : Hid (∀ v2 w2, w2.ownsRow w.heap.size 5 1 v2 zs.length (zs.map (Value.int .u8)) → w.grownBy w2 (Value.slice none 0 0).ownBlock → Own w2 w.heap.size v2 zs ∧ Below w.heap.size w w2) := fun v2 w2 h1 h2 => copy_own (unhide HBY) (by omega) h1 h2
    clear hs hsrc HBY hgl
    generalize zs.map (Value.int .u8) = us at *
    generalize hmm : zs.length = mm at *
    go_enter Tryz.func4, Tryz.ntmps4
    go_wp2_with (at_builtin; refine wpList_append_own _ rfl (.tmp 5) (.tmp 6) 24 rfl w.heap.size 5 i0 (.int .u8 0) 1 1 Tryz.underlying24 hi hz0 hz1 hz2 rfl (by decide) _ _ _ rfl (unhide HR0) ad mm cap us rfl (by rw [hmp]; simp) (unhide HS) (unhide H1) (by unfold maxLen; omega) (by omega) (by omega) ?_)
    intro v2 w2 hr2 hg2 _
    obtain ⟨hown, hbel⟩ := (unhide HMORE) v2 w2 hr2 hg2
    obtain ⟨ao2, cap2, hv2, hc21, hc22⟩ := hown.sl.shape
    rw [hmm] at hv2 hc21
    subst hv2
    have HI : Hid (∀ W, Below w2.heap.size w2 W → Sl W (.slice ao2 mm cap2) zs) := fun W h => hown.sl.below h
    have HB2 := hide hbel
    clear HMORE hr2 hg2 HS H1 HR0 hmp hown hbel
    by_cases h4 : 4 ≤ mm
    · obtain ⟨n, rfl⟩ : ∃ n, mm = n + 4 := ⟨mm - 4, by omega⟩
      have hH := (unhide HEAD) w2 ao2 (n + 4) cap2 n ((unhide HI) w2 (Below.refl _ _)) (by omega) hc21
      have K2 := hide ((unhide KL) w2 _ _ hH (by rw [List.length_take]; omega))
      have hd4 : decide ((4 : Int) ≤ (n : Int) + 4) = true := decide_eq_true (by omega)
      have hq1 : (0 : Int) ≤ (n : Int) := by omega
      have hq2 : (n : Int) ≤ (cap2 : Int) := by omega
      have hq3 : (n : Int) + 4 ≤ (cap2 : Int) := by omega
      have hq5 : n ≤ cap2 := by omega
      have hq6 : (n : Int) ≤ (n : Int) + 4 := by omega
      have hn2 : (n : Int) ≤ 1048572 := by omega
      clear KL HEAD hH
      generalize zs.take n ++ Pk.sum4 (zs.take n) = xs at *
      go_wp2_with fail
      refine (unhide K2).mono ?_
      rintro e3 w3 ⟨u3, rfl, hown3, hb3⟩
      have hB3 := bthen (unhide HB2) hb3
      have K3 := hide ((unhide KN) w3 _ _ hB3 hown3.sl)
      obtain ⟨ao3, cap3, hv3, hc31, hc32⟩ := hown3.sl.shape
      subst hv3
      have HB3 := hide hB3
      have HB23 := hide hb3
      clear K2 hown3 hb3 hB3
      go_wp2_with fail
      refine (unhide K3).mono ?_
      rintro e4 w4 ⟨rfl, hb4⟩
      have HB24 := hide (bthen (unhide HB23) hb4)
      have hB4 := bthen (unhide HB3) hb4
      have K4 := hide ((unhide KT) w4 hB4)
      have HB4 := hide hB4
      clear K3 hb4 hB4 HB3 HB23 KT
      go_wp2_with fail
      refine (unhide K4).mono ?_
      rintro e5 w5 ⟨rfl, hb5⟩
      have HB25 := hide (bthen (unhide HB24) hb5)
      have hB5 := bthen (unhide HB4) hb5
      have K5 := hide ((unhide KN) w5 _ _ hB5 ((unhide HI) w5 (unhide HB25)))
      have HB5 := hide hB5
      clear K4 hb5 hB5 HB4 HB24 KN
      go_wp2_with fail
      refine (unhide K5).mono ?_
      rintro e6 w6 ⟨rfl, hb6⟩
      have hB6 := bthen (unhide HB5) hb6
      have cv := ((unhide HV) w6 hB6).conv
      have cu := ((unhide HI) w6 (bthen (unhide HB25) hb6)).conv
      have HF : Tells8 w true (.returned (.bool true)) w6 := ⟨rfl, hB6⟩
      clear K5 hb6 HB5 HB25 HV HI hB6
      generalize strOfNums zs = sn at *
      go_wp2
      go_ret
      exact HF
    · have hd4 : decide ((4 : Int) ≤ (mm : Int)) = false := decide_eq_false (by omega)
      have K4 := hide ((unhide KT) w2 (unhide HB2))
      clear KL HEAD KT
      go_wp2_with fail
      refine (unhide K4).mono ?_
      rintro e5 w5 ⟨rfl, hb5⟩
      have HB25 := hide hb5
      have hB5 := bthen (unhide HB2) hb5
      have K5 := hide ((unhide KN) w5 _ _ hB5 ((unhide HI) w5 (unhide HB25)))
      have HB5 := hide hB5
      clear K4 hb5 hB5 HB2 KN
      go_wp2_with fail
      refine (unhide K5).mono ?_
      rintro e6 w6 ⟨rfl, hb6⟩
      have hB6 := bthen (unhide HB5) hb6
      have cv := ((unhide HV) w6 hB6).conv
      have cu := ((unhide HI) w6 (bthen (unhide HB25) hb6)).conv
      have HF : Tells8 w true (.returned (.bool true)) w6 := ⟨rfl, hB6⟩
      clear K5 hb6 HB5 HB25 HV HI hB6
      generalize strOfNums zs = sn at *
      go_wp2
      go_ret
      exact HF
end Go.Proofs.YtdnkfnccbmbpaaaGreatDoor
