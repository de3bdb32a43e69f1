/- PackPacks. -/
import Derived.Test.YtdnkfnccbmbpaaaGreatDoorMQa8
import Derived.Test.YtdnkfnccbmbpaaaGreatDoorMRbb8
namespace Go.Proofs.YtdnkfnccbmbpaaaGreatDoor
open Go.RowKit
open Wi

/-- What few tells, and what was handed in, cut to as many. -/
theorem few_both8 {w w1 : World} {ao : Option Addr} {len cap : Nat} {rs : List Rec} {v1 : Value} {ps : List (Rec × Value)} (hv : Rcs w (.slice ao len cap) rs) (hlen : rs.length = len) (hp : ps.map (·.1) = rs.take 120) (hr : Rown w1 w.heap.size v1 ps) (hb : Below w.heap.size w w1) :
    ∃ m : Nat, m ≤ len ∧ m ≤ 120 ∧ Rcs w1 v1 (rs.take 120) ∧ Rcs w1 (.slice ao m cap) (rs.take 120) ∧ (∃ ao1 cap1, v1 = .slice ao1 m cap1 ∧ cap1 ≤ 9223372036854775807) := by
  refine ⟨(rs.take 120).length, by simp; omega, by simp; omega, ?_, ?_, ?_⟩
  · rw [← hp]
    refine hr.rcs ?_ (fun p hp' => ?_)
    · have := congrArg List.length hp
      rw [List.length_map] at this
      rw [this]; simp; omega
    · have : p.1 ∈ ps.map (·.1) := List.mem_map.2 ⟨p, hp', rfl⟩
      rw [hp] at this
      exact hv.2.1 _ (List.mem_of_mem_take this)
  · have h := (hv.head (k := (rs.take 120).length) (by simp; omega)).below hb
    have e : rs.take (rs.take 120).length = rs.take 120 := by
      rw [List.length_take]
      rcases Nat.le_total rs.length 120 with h | h
      · rw [Nat.min_eq_right h, List.take_of_length_le h, List.take_length]
      · rw [Nat.min_eq_left h]
    rw [e] at h
    exact h
  · have hl : ps.length = (rs.take 120).length := by rw [← hp, List.length_map]
    rcases hr.1.2 with ⟨rfl, h0⟩ | ⟨g, cap1, cur, rfl, _, _, _, hc, _⟩
    · exact ⟨none, 0, by rw [← hl, h0], by omega⟩
    · exact ⟨_, cap1, by rw [hl], by unfold maxLen at hc; omega⟩
theorem set_else {w : World} {g j k : Nat} (v : Value) (h : k ≠ g) : (w.setCell ⟨g, j, none⟩ v).heap[k]? = w.heap[k]? := by
  show (w.heap.modify g _)[k]? = _
  rw [Array.getElem?_modify, if_neg (fun e => h e.symm)]
theorem Own.keepB {w w' : World} {B : Nat} {v : Value} {zs : List Int} (h : Own w B v zs) (hk : ∀ g, v.ownBlock = some g → w'.heap[g]? = w.heap[g]?) : Own w' B v zs := ⟨h.1, h.2.1, own_keep h.2.2 hk⟩
/-- While the bytes that were told are written over. -/
structure PkW (w1 w5 W : World) (g cap : Nat) : Prop where
  bel : Below w1.heap.size w1 W
  blk : ∃ cur : Array Value, W.heap[g]? = some (.cells cur 5 (0, 0)) ∧ cur.size = cap
  rest : ∀ k, k ≠ g → W.heap[k]? = w5.heap[k]?
theorem PkW.set {w1 w5 W : World} {g cap : Nat} (h : PkW w1 w5 W g cap) (hg : w1.heap.size ≤ g) (j : Nat) (v : Value) : PkW w1 w5 (W.setCell ⟨g, j, none⟩ v) g cap := by
  obtain ⟨cur, h1, h2⟩ := h.blk
  exact ⟨below_set h.bel hg v, ⟨_, set_block h1 v, by simpa using h2⟩, fun k hk => by rw [set_else v hk]; exact h.rest k hk⟩
set_option maxRecDepth 8000 in
set_option maxHeartbeats 8000000 in
theorem packs_any (v : Value) (rs : List Rec) (w : World) (hgl : Glob w) (hv : Rcs w v rs) : Calls Tryz.prog 3 #[v] w (Tells8 w true) := by
  have HGL : Hid (∀ W, Below w.heap.size w W → Glob W) := fun W h => hgl.on h
  have K1 := hide (few8_any v rs 120 w hv (by omega))
  have KT : Hid (∀ W, Below w.heap.size w W → Calls Tryz.prog 8 #[] W (Tells8 W true)) := fun W h => told8_any W (hgl.on h)
  obtain ⟨ao, cap, rfl, h1, h2⟩ := hv.shape
  have hlen := hv.1
  go_enter Tryz.func3, Tryz.ntmps3
  go_wp2_with fail
  refine (unhide K1).mono ?_
  rintro e1 w1 ⟨v1, ps, rfl, a1, a2, hb1⟩
  obtain ⟨m, m1, m3, rv, rl, ao1, cap1, rfl, mc⟩ := few_both8 hv rfl a1 a2 hb1
  clear K1 a1 a2 hv
  generalize rs.take 120 = xs at *
  have K2 := hide (pack_any _ xs w1 ((unhide HGL) w1 hb1) rv)
  have HRV := hide rv
  have HRL := hide rl
  have HB1 := hide hb1
  have HPK : Hid (∀ W, Below w1.heap.size w1 W → Calls Tryz.prog 6 #[.slice ao1 m cap1] W (PackB W (Pk.pack xs))) := fun W h => pack_any _ xs W ((unhide HGL) W (bthen hb1 h)) (rv.below h)
  have HRP : Hid (∀ W, Below w1.heap.size w1 W → Calls Tryz.prog 7 #[.slice ao m cap] W (PackB W (Pk.pack xs))) := fun W h => refPack_any _ xs W (rl.below h)
  clear rv rl hgl HGL
  generalize Pk.pack xs = q at *
  obtain ⟨q1, q2, q3⟩ := q
  go_wp2_with fail
  refine (unhide K2).mono ?_
  rintro e2 w2 ⟨v2, rfl, hown2, hb2⟩
  have K3 := hide ((unhide HRP) w2 hb2)
  have HO2 := hide hown2
  have HB2 := hide hb2
  have HG2 : Hid (∀ g, v2.ownBlock = some g → w1.heap.size ≤ g ∧ g < w2.heap.size) := fun g hg => hown2.2.2.lt g hg
  obtain ⟨ao2, cap2, hv2, _, _⟩ := hown2.sl.shape
  subst hv2
  clear K2 HRP hown2 hb2 hb1
  go_wp2_with fail
  refine (unhide K3).mono ?_
  rintro e3 w3 ⟨v3, rfl, hown3, hb3⟩
  have HB3 := hide (bthen (unhide HB2) hb3)
  have K4 := hide ((unhide HPK) w3 (unhide HB3))
  have HO3 := hide hown3
  have HO2b := hide ((unhide HO2).sl.below hb3)
  have HS23 := hide hb3.size
  obtain ⟨ao3, cap3, hv3, _, _⟩ := hown3.sl.shape
  subst hv3
  have HO2c := hide (own_below (unhide HO2) hb3)
  clear K3 HPK hown3 hb3 HO2b HO2
  go_wp2_with fail
  refine (unhide K4).mono ?_
  rintro e4 w4 ⟨v4, rfl, hown4, hb4⟩
  have HB4 := hide (bthen (unhide HB3) hb4)
  have K5 := hide ((unhide KT) w4 (bthen (unhide HB1) (unhide HB4)))
  have HO4 := hide hown4
  have HO2d := hide (own_below (unhide HO2c) hb4)
  have HO3d := hide (own_below (unhide HO3) hb4)
  have HS34 := hide hb4.size
  obtain ⟨ao4, cap4, hv4, _, _⟩ := hown4.sl.shape
  subst hv4
  clear K4 KT hown4 hb4 HO2c HO3 HB3
  go_wp2_with fail
  refine (unhide K5).mono ?_
  rintro e5 w5 ⟨rfl, hb5⟩
  have HB5 := hide (bthen (unhide HB4) hb5)
  have hO2 := own_below (unhide HO2d) hb5
  have hO3 := own_below (unhide HO3d) hb5
  have hO4 := own_below (unhide HO4) hb5
  have hS45 := hb5.size
  clear K5 hb5 HO2d HO3d HO4 HB4
  have c2 := hO2.sl.conv
  have c3 := hO3.sl.conv
  have HO2 := hide hO2
  have HO3 := hide hO3
  have HO4 := hide hO4
  have b1 : ((q2 : Int) != (q2 : Int)) = false := by simp
  have b2 : (q3 != q3) = false := by simp
  clear hO2 hO3 hO4
  generalize hsn : strOfNums q1 = sn at *
  replace hsn := hide hsn
  have HKEEP : Hid (∀ W, Below w1.heap.size w1 W → (∀ k, (Value.slice ao2 q1.length cap2).ownBlock ≠ some k → W.heap[k]? = w5.heap[k]?) → Sl W (.slice ao4 q1.length cap4) q1 ∧ Sl W (.slice ao3 q1.length cap3) q1 ∧ Below w1.heap.size w1 W) := fun W hb hk => by
    have s3 := unhide HS23
    refine ⟨(Own.keepB (unhide HO4) fun g hg => hk g fun e => ?_).sl, (Own.keepB (unhide HO3) fun g hg => hk g fun e => ?_).sl, hb⟩
    · have h5 := ((unhide HO4).2.2.lt g hg).1
      have h6 := ((unhide HG2) g e).2
      omega
    · have h5 := ((unhide HO3).2.2.lt g hg).1
      have h6 := ((unhide HG2) g e).2
      omega
  rcases (unhide HO2).2.2.2 with ⟨hnil, h0⟩ | ⟨g, cap', cur, hve, hgB, hh, hn, hcap, hsz, htake⟩
  · obtain ⟨e1, e2, e3⟩ := Value.slice.inj hnil
    clear hnil e2
    subst e1 e3
    obtain rfl : q1 = [] := List.eq_nil_of_length_eq_zero h0
    have HW := hide ((unhide HKEEP) w5 (unhide HB5) (fun k _ => rfl))
    clear h0
    rw [List.length_nil] at c2 c3
    go_wp2
    refine wp_loop_rounds 1 ?_
    rw [rounds_succ]
    have hW4 := (unhide HW).1
    have hW3 := (unhide HW).2.1
    have hbW := (unhide HW).2.2
    have d4 := hW4.conv
    have d3 := hW3.conv
    rw [unhide hsn, List.length_nil] at d4 d3
    have JS := hide (sameRecs_eq _ _ xs _ ((unhide HRV).below hbW) ((unhide HRL).below hbW))
    have HBW := hide (bthen (unhide HB1) hbW)
    clear hW4 hW3 hbW HW HRV HRL HB1 hsn HO2 HO3 HO4 HG2 HS23 HS34 HB5 HB2 HKEEP c2 c3
    go_wp2_with fail
    refine (unhide JS).mono ?_
    rintro e6 w6 ⟨rfl, hb6⟩
    have HF : Tells8 w true (.returned (.bool true)) w6 := ⟨rfl, bthen (unhide HBW) hb6⟩
    clear JS HBW hb6
    go_wp2
    go_ret
    exact HF
  · obtain ⟨e1, e2, e3⟩ := Value.slice.inj hve
    clear hve e2
    subst e1 e3
    rw [Nat.mul_one] at hsz
    unfold maxLen at hcap
    have HI : Hid (PkW w1 w5 w5 g cap2) := ⟨unhide HB5, ⟨cur, hh, hsz⟩, fun k _ => rfl⟩
    clear hh hsz htake
    go_wp2
    go_loopw [13] (fun jv wi => ∃ j : Nat, jv = .int .i64 j ∧ j ≤ q1.length ∧ PkW w1 w5 wi g cap2) (fun jv _ => q1.length - (intOf jv).toNat)
    case atStart => exact ⟨0, rfl, by omega, unhide HI⟩
    case round =>
      obtain ⟨j, rfl, hj, hI⟩ := hrel
      clear HI
      by_cases hlt : j < q1.length
      · obtain ⟨cur2, hc2, hs2⟩ := hI.blk
        have cc := cell_of (j := j) hc2 (by omega)
        have fz := frozen_of (j := j) hc2
        have HX := hide (hI.set hgB j (.int .u8 9))
        clear hc2 hs2 hI c2 c3
        go_wp2
        go_roundw
        case rel => exact ⟨j + 1, by go_num, by omega, unhide HX⟩
        case measure => simp [intOf]; omega
      · obtain rfl : j = q1.length := by omega
        have HW := hide ((unhide HKEEP) _ hI.bel (fun k hk => hI.rest k (fun e => hk (by rw [e]; rfl))))
        clear hI hlt hj
        have hW4 := (unhide HW).1
        have hW3 := (unhide HW).2.1
        have hbW := (unhide HW).2.2
        have d4 := hW4.conv
        have d3 := hW3.conv
        rw [unhide hsn] at d4 d3
        have JS := hide (sameRecs_eq _ _ xs _ ((unhide HRV).below hbW) ((unhide HRL).below hbW))
        have HBW := hide (bthen (unhide HB1) hbW)
        clear hW4 hW3 hbW HW HRV HRL HB1 hsn HO2 HO3 HO4 HG2 HS23 HS34 HB5 HB2 HKEEP c2 c3
        go_wp2_with fail
        refine (unhide JS).mono ?_
        rintro e6 w6 ⟨rfl, hb6⟩
        have HF : Tells8 w true (.returned (.bool true)) w6 := ⟨rfl, bthen (unhide HBW) hb6⟩
        clear JS HBW hb6
        go_wp2
        go_ret
        exact HF
end Go.Proofs.YtdnkfnccbmbpaaaGreatDoor
