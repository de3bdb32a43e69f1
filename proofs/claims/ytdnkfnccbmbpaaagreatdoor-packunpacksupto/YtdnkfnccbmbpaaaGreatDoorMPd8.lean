/- What a kind has behind it: fields. -/
import Derived.Test.YtdnkfnccbmbpaaaGreatDoorGn8
namespace Go.Proofs.YtdnkfnccbmbpaaaGreatDoor
open Go.RowKit

theorem Tryz.zinfo61 : (Tryz.prog.info? 61).map (fun i => (i.zero, i.size, i.bytes)) = some (some (.agg #[.nilFunc, .nilFunc]), 2, 16) := by kernel_rfl
theorem fn_new2 (W : World) (n : Nat) (hn : n = W.heap.size) (x y : Value) : ∀ j u, (fcell (x, y))[j]? = some u → (W.alloc (.cells #[x, y] 61)).cell? ((⟨n, 0, none⟩ : Addr).add j) = some u := by
  subst hn
  intro j u hj
  rw [addr_add]
  match j, hj with
  | 0, hj => simp [fcell] at hj; subst hj; simp
  | 1, hj => simp [fcell] at hj; subst hj; simp
theorem fn_new4 (W : World) (n : Nat) (hn : n = W.heap.size) (x y z u : Value) : ∀ j v, (fcells [(x, y), (z, u)])[j]? = some v → (W.alloc (.cells #[x, y, z, u] 61)).cell? ((⟨n, 0, none⟩ : Addr).add j) = some v := by
  subst hn
  intro j u hj
  rw [addr_add]
  match j, hj with
  | 0, hj => simp [fcells, fcell] at hj; subst hj; simp
  | 1, hj => simp [fcells, fcell] at hj; subst hj; simp
  | 2, hj => simp [fcells, fcell] at hj; subst hj; simp
  | 3, hj => simp [fcells, fcell] at hj; subst hj; simp
theorem getD_left {α : Type} (a b : List α) (i : Nat) (d : α) (h : i < a.length) : (a ++ b).getD i d = a.getD i d := by simp [List.getD, List.getElem?_append_left h]
theorem getD_right {α : Type} (a b : List α) (i : Nat) (d : α) (h : a.length ≤ i) : (a ++ b).getD i d = b.getD (i - a.length) d := by simp [List.getD, List.getElem?_append_right h]
/-- Fields behind fields. -/
theorem fds_app {w w1 w2 w3 : World} {p : Nat} {v v3 : Value} {fs gs : List Nat} {xs ys : List (Value × Value)} (hx : xs.length = fs.length) (hrow : w1.ownsRow w.heap.size 61 2 v xs.length (fcells xs)) (hfd : ∀ i, i < fs.length → Fd w1 p (fs.getD i 0) (xs.getD i (undef, undef)))
    (hb0 : Below w.heap.size w w1) (hb1 : Below w1.heap.size w1 w2) (hy : ys.length = gs.length) (hgd : ∀ i, i < gs.length → Fd w2 p (gs.getD i 0) (ys.getD i (undef, undef)))
    (hg : w2.grownBy w3 v.ownBlock) (hr3 : w3.ownsRow w.heap.size 61 2 v3 (xs.length + ys.length) (fcells xs ++ fcells ys)) : FdsB w p (fs ++ gs) (.returned v3) w3 := by
  have hrow2 : w2.ownsRow w.heap.size 61 2 v xs.length (fcells xs) := own_keep hrow fun g h => hb1.block g (hrow.lt g h).2
  have k : Bxs w2 w3 := Bxs.grown_row hrow2 (by decide) hg
  refine ⟨v3, rfl, ⟨xs ++ ys, by simp [hx, hy], by rw [fcells_app] at hr3; simpa using hr3, fun i hi => ?_⟩, ?_⟩
  · rw [List.length_append] at hi
    by_cases h : i < fs.length
    · rw [getD_left _ _ _ _ h, getD_left _ _ _ _ (by omega)]
      exact ((hfd i h).below hb1).keep k
    · rw [getD_right _ _ _ _ (by omega), getD_right _ _ _ _ (by omega), hx]
      exact (hgd _ (by omega)).keep k
  · have h02 := bthen hb0 hb1
    exact h02.grown hg (by have := h02.size; omega) (fun k hk => (hrow2.lt k hk).1)
set_option maxHeartbeats 2000000 in
theorem fields_1 (p : Nat) (w : World) (hk : w.cell? ⟨p, 0, none⟩ = some (.int .i64 1)) : Calls Tryz.prog 26 #[.pointer (some ⟨p, 0, none⟩)] w (FdsB w p [0, 1]) := by
  have K := hide (span_mk p w)
  go_enter Tryz.func26, Tryz.ntmps26
  go_wp2_with fail
  refine (unhide K).mono ?_
  rintro e w1 ⟨v, rfl, hv, hb⟩
  have HF : FdsB w p [0, 1] (.returned v) w1 := ⟨v, rfl, hv, hb⟩
  clear K hv hb
  go_wp2
  go_ret
  exact HF
set_option maxHeartbeats 2000000 in
theorem fields_2 (p : Nat) (w : World) (hk : w.cell? ⟨p, 0, none⟩ = some (.int .i64 2)) : Calls Tryz.prog 26 #[.pointer (some ⟨p, 0, none⟩)] w (FdsB w p [0, 1]) := by
  have K := hide (span_mk p w)
  go_enter Tryz.func26, Tryz.ntmps26
  go_wp2_with fail
  refine (unhide K).mono ?_
  rintro e w1 ⟨v, rfl, hv, hb⟩
  have HF : FdsB w p [0, 1] (.returned v) w1 := ⟨v, rfl, hv, hb⟩
  clear K hv hb
  go_wp2
  go_ret
  exact HF
set_option maxHeartbeats 2000000 in
theorem fields_11 (p : Nat) (w : World) (hk : w.cell? ⟨p, 0, none⟩ = some (.int .i64 11)) : Calls Tryz.prog 26 #[.pointer (some ⟨p, 0, none⟩)] w (FdsB w p [0, 1]) := by
  have K := hide (span_mk p w)
  go_enter Tryz.func26, Tryz.ntmps26
  go_wp2_with fail
  refine (unhide K).mono ?_
  rintro e w1 ⟨v, rfl, hv, hb⟩
  have HF : FdsB w p [0, 1] (.returned v) w1 := ⟨v, rfl, hv, hb⟩
  clear K hv hb
  go_wp2
  go_ret
  exact HF
set_option maxHeartbeats 2000000 in
theorem fields_3 (p : Nat) (w : World) (hk : w.cell? ⟨p, 0, none⟩ = some (.int .i64 3)) : Calls Tryz.prog 26 #[.pointer (some ⟨p, 0, none⟩)] w (FdsB w p [0, 1, 7]) := by
  have hmf : ∀ (fn : Fn) (first cap : Array Value) (w : World), (Instr.makeFunc fn first cap).run Tryz.prog w = .ok (.func fn first cap) w := fun _ _ _ _ => rfl
  have hst : ∀ W a m fn x y, (store a (.func fn x y) m).run Tryz.prog W = stored Tryz.prog W a (.func fn x y) m := fun W a m fn x y => run_store Tryz.prog W a _ m rfl
  obtain ⟨i1, hj, hy0, hy1, hy2⟩ := info_parts Tryz.zinfo61
  have K := hide (span_mk p w)
  have K2 := hide (fun W => list_mk p W)
  go_enter Tryz.func26, Tryz.ntmps26
  go_wp2_with fail
  refine (unhide K).mono ?_
  rintro e w1 ⟨v, rfl, ⟨xs, hxl, hrow, hfd⟩, hb⟩
  go_wp2_with fail
  refine ((unhide K2) w1).mono ?_
  rintro e2 w2 ⟨x, rfl, hx, hb2⟩
  obtain ⟨k1, a1, k2, a2, rfl⟩ := hx.shape
  have hs : w.heap.size ≤ w1.heap.size := hb.size
  have hs2 : w1.heap.size ≤ w2.heap.size := hb2.size
  have HM : Hid (∀ o, (w2.alloc o).ownsRow w.heap.size 61 2 v xs.length (fcells xs)) := fun o => World.ownsRow.alloc (own_keep hrow fun g h => hb2.block g (hrow.lt g h).2) o
  have HNEW := hide (fn_new2 w2 w2.heap.size rfl (.func (.func k1) #[] #[.pointer (some ⟨a1, 0, none⟩)]) (.func (.func k2) #[] #[.pointer (some ⟨a2, 0, none⟩)]))
  have HONE : Hid (∀ u ∈ fcell (Value.func (.func k1) #[] #[.pointer (some ⟨a1, 0, none⟩)], Value.func (.func k2) #[] #[.pointer (some ⟨a2, 0, none⟩)]), u.oneCell' = true) := fun u hu => by
    simp only [fcell, List.mem_cons, List.mem_nil_iff, or_false] at hu
    rcases hu with rfl | rfl <;> rfl
  have HF : Hid (∀ o v3 w3, (w2.alloc o).grownBy w3 v.ownBlock → w3.ownsRow w.heap.size 61 2 v3 (2 + 1) (fcells xs ++ fcell (Value.func (.func k1) #[] #[.pointer (some ⟨a1, 0, none⟩)], Value.func (.func k2) #[] #[.pointer (some ⟨a2, 0, none⟩)])) → FdsB w p [0, 1, 7] (.returned v3) w3) := fun o v3 w3 hg hr =>
    fds_app (fs := [0, 1]) (gs := [7]) (ys := [(_, _)]) hxl hrow hfd hb (hb2.trans ((Below.refl w1.heap.size w2).alloc hs2 o)) rfl (fun i hi => by
      match i, hi with
      | 0, _ => exact hx.keep (Bxs.alloc _ _)) hg (by rw [hxl]; simpa [fcells] using hr)
  clear K K2 hrow hfd hb hb2 hx
  have hxl2 : xs.length = 2 := hxl
  rw [hxl2] at HM
  clear hxl hxl2
  go_wp2_with (at_builtin; refine wpList_append_own _ rfl (.tmp 16) (.tmp 19) 55 rfl w.heap.size 61 i1 (.agg #[.nilFunc, .nilFunc]) 2 16 Tryz.underlying55 hj hy0 hy1 hy2 rfl (by decide) _ _ _ rfl ((unhide HM) _) ⟨w2.heap.size, 0, none⟩ 1 1 (fcell (Value.func (.func k1) #[] #[.pointer (some ⟨a1, 0, none⟩)], Value.func (.func k2) #[] #[.pointer (some ⟨a2, 0, none⟩)])) rfl rfl (unhide HNEW) (unhide HONE) (by unfold maxLen; omega) (by omega) (by simp; omega) ?_)
  intro v3 w3 hr3 hg3 _
  have HR := (unhide HF) _ v3 w3 hg3 hr3
  clear HF HM HNEW HONE hr3 hg3
  go_wp2
  go_ret
  exact HR
set_option maxHeartbeats 2000000 in
theorem fields_6 (p : Nat) (w : World) (hk : w.cell? ⟨p, 0, none⟩ = some (.int .i64 6)) : Calls Tryz.prog 26 #[.pointer (some ⟨p, 0, none⟩)] w (FdsB w p [0, 1, 3]) := by
  have hmf : ∀ (fn : Fn) (first cap : Array Value) (w : World), (Instr.makeFunc fn first cap).run Tryz.prog w = .ok (.func fn first cap) w := fun _ _ _ _ => rfl
  have hst : ∀ W a m fn x y, (store a (.func fn x y) m).run Tryz.prog W = stored Tryz.prog W a (.func fn x y) m := fun W a m fn x y => run_store Tryz.prog W a _ m rfl
  obtain ⟨i1, hj, hy0, hy1, hy2⟩ := info_parts Tryz.zinfo61
  have K := hide (span_mk p w)
  have K2 := hide (fun W => plain_mk p W)
  go_enter Tryz.func26, Tryz.ntmps26
  go_wp2_with fail
  refine (unhide K).mono ?_
  rintro e w1 ⟨v, rfl, ⟨xs, hxl, hrow, hfd⟩, hb⟩
  go_wp2_with fail
  refine ((unhide K2) w1).mono ?_
  rintro e2 w2 ⟨x, rfl, hx, hb2⟩
  obtain ⟨k1, a1, k2, a2, rfl⟩ := hx.shape
  have hs : w.heap.size ≤ w1.heap.size := hb.size
  have hs2 : w1.heap.size ≤ w2.heap.size := hb2.size
  have HM : Hid (∀ o, (w2.alloc o).ownsRow w.heap.size 61 2 v xs.length (fcells xs)) := fun o => World.ownsRow.alloc (own_keep hrow fun g h => hb2.block g (hrow.lt g h).2) o
  have HNEW := hide (fn_new2 w2 w2.heap.size rfl (.func (.func k1) #[] #[.pointer (some ⟨a1, 0, none⟩)]) (.func (.func k2) #[] #[.pointer (some ⟨a2, 0, none⟩)]))
  have HONE : Hid (∀ u ∈ fcell (Value.func (.func k1) #[] #[.pointer (some ⟨a1, 0, none⟩)], Value.func (.func k2) #[] #[.pointer (some ⟨a2, 0, none⟩)]), u.oneCell' = true) := fun u hu => by
    simp only [fcell, List.mem_cons, List.mem_nil_iff, or_false] at hu
    rcases hu with rfl | rfl <;> rfl
  have HF : Hid (∀ o v3 w3, (w2.alloc o).grownBy w3 v.ownBlock → w3.ownsRow w.heap.size 61 2 v3 (2 + 1) (fcells xs ++ fcell (Value.func (.func k1) #[] #[.pointer (some ⟨a1, 0, none⟩)], Value.func (.func k2) #[] #[.pointer (some ⟨a2, 0, none⟩)])) → FdsB w p [0, 1, 3] (.returned v3) w3) := fun o v3 w3 hg hr =>
    fds_app (fs := [0, 1]) (gs := [3]) (ys := [(_, _)]) hxl hrow hfd hb (hb2.trans ((Below.refl w1.heap.size w2).alloc hs2 o)) rfl (fun i hi => by
      match i, hi with
      | 0, _ => exact hx.keep (Bxs.alloc _ _)) hg (by rw [hxl]; simpa [fcells] using hr)
  clear K K2 hrow hfd hb hb2 hx
  have hxl2 : xs.length = 2 := hxl
  rw [hxl2] at HM
  clear hxl hxl2
  go_wp2_with (at_builtin; refine wpList_append_own _ rfl (.tmp 46) (.tmp 49) 55 rfl w.heap.size 61 i1 (.agg #[.nilFunc, .nilFunc]) 2 16 Tryz.underlying55 hj hy0 hy1 hy2 rfl (by decide) _ _ _ rfl ((unhide HM) _) ⟨w2.heap.size, 0, none⟩ 1 1 (fcell (Value.func (.func k1) #[] #[.pointer (some ⟨a1, 0, none⟩)], Value.func (.func k2) #[] #[.pointer (some ⟨a2, 0, none⟩)])) rfl rfl (unhide HNEW) (unhide HONE) (by unfold maxLen; omega) (by omega) (by simp; omega) ?_)
  intro v3 w3 hr3 hg3 _
  have HR := (unhide HF) _ v3 w3 hg3 hr3
  clear HF HM HNEW HONE hr3 hg3
  go_wp2
  go_ret
  exact HR
set_option maxHeartbeats 2000000 in
theorem fields_9 (p : Nat) (w : World) (hk : w.cell? ⟨p, 0, none⟩ = some (.int .i64 9)) : Calls Tryz.prog 26 #[.pointer (some ⟨p, 0, none⟩)] w (FdsB w p [0, 1, 3]) := by
  have hmf : ∀ (fn : Fn) (first cap : Array Value) (w : World), (Instr.makeFunc fn first cap).run Tryz.prog w = .ok (.func fn first cap) w := fun _ _ _ _ => rfl
  have hst : ∀ W a m fn x y, (store a (.func fn x y) m).run Tryz.prog W = stored Tryz.prog W a (.func fn x y) m := fun W a m fn x y => run_store Tryz.prog W a _ m rfl
  obtain ⟨i1, hj, hy0, hy1, hy2⟩ := info_parts Tryz.zinfo61
  have K := hide (span_mk p w)
  have K2 := hide (fun W => plain_mk p W)
  go_enter Tryz.func26, Tryz.ntmps26
  go_wp2_with fail
  refine (unhide K).mono ?_
  rintro e w1 ⟨v, rfl, ⟨xs, hxl, hrow, hfd⟩, hb⟩
  go_wp2_with fail
  refine ((unhide K2) w1).mono ?_
  rintro e2 w2 ⟨x, rfl, hx, hb2⟩
  obtain ⟨k1, a1, k2, a2, rfl⟩ := hx.shape
  have hs : w.heap.size ≤ w1.heap.size := hb.size
  have hs2 : w1.heap.size ≤ w2.heap.size := hb2.size
  have HM : Hid (∀ o, (w2.alloc o).ownsRow w.heap.size 61 2 v xs.length (fcells xs)) := fun o => World.ownsRow.alloc (own_keep hrow fun g h => hb2.block g (hrow.lt g h).2) o
  have HNEW := hide (fn_new2 w2 w2.heap.size rfl (.func (.func k1) #[] #[.pointer (some ⟨a1, 0, none⟩)]) (.func (.func k2) #[] #[.pointer (some ⟨a2, 0, none⟩)]))
  have HONE : Hid (∀ u ∈ fcell (Value.func (.func k1) #[] #[.pointer (some ⟨a1, 0, none⟩)], Value.func (.func k2) #[] #[.pointer (some ⟨a2, 0, none⟩)]), u.oneCell' = true) := fun u hu => by
    simp only [fcell, List.mem_cons, List.mem_nil_iff, or_false] at hu
    rcases hu with rfl | rfl <;> rfl
  have HF : Hid (∀ o v3 w3, (w2.alloc o).grownBy w3 v.ownBlock → w3.ownsRow w.heap.size 61 2 v3 (2 + 1) (fcells xs ++ fcell (Value.func (.func k1) #[] #[.pointer (some ⟨a1, 0, none⟩)], Value.func (.func k2) #[] #[.pointer (some ⟨a2, 0, none⟩)])) → FdsB w p [0, 1, 3] (.returned v3) w3) := fun o v3 w3 hg hr =>
    fds_app (fs := [0, 1]) (gs := [3]) (ys := [(_, _)]) hxl hrow hfd hb (hb2.trans ((Below.refl w1.heap.size w2).alloc hs2 o)) rfl (fun i hi => by
      match i, hi with
      | 0, _ => exact hx.keep (Bxs.alloc _ _)) hg (by rw [hxl]; simpa [fcells] using hr)
  clear K K2 hrow hfd hb hb2 hx
  have hxl2 : xs.length = 2 := hxl
  rw [hxl2] at HM
  clear hxl hxl2
  go_wp2_with (at_builtin; refine wpList_append_own _ rfl (.tmp 46) (.tmp 49) 55 rfl w.heap.size 61 i1 (.agg #[.nilFunc, .nilFunc]) 2 16 Tryz.underlying55 hj hy0 hy1 hy2 rfl (by decide) _ _ _ rfl ((unhide HM) _) ⟨w2.heap.size, 0, none⟩ 1 1 (fcell (Value.func (.func k1) #[] #[.pointer (some ⟨a1, 0, none⟩)], Value.func (.func k2) #[] #[.pointer (some ⟨a2, 0, none⟩)])) rfl rfl (unhide HNEW) (unhide HONE) (by unfold maxLen; omega) (by omega) (by simp; omega) ?_)
  intro v3 w3 hr3 hg3 _
  have HR := (unhide HF) _ v3 w3 hg3 hr3
  clear HF HM HNEW HONE hr3 hg3
  go_wp2
  go_ret
  exact HR
set_option maxHeartbeats 2000000 in
theorem fields_10 (p : Nat) (w : World) (hk : w.cell? ⟨p, 0, none⟩ = some (.int .i64 10)) : Calls Tryz.prog 26 #[.pointer (some ⟨p, 0, none⟩)] w (FdsB w p [0, 1, 3]) := by
  have hmf : ∀ (fn : Fn) (first cap : Array Value) (w : World), (Instr.makeFunc fn first cap).run Tryz.prog w = .ok (.func fn first cap) w := fun _ _ _ _ => rfl
  have hst : ∀ W a m fn x y, (store a (.func fn x y) m).run Tryz.prog W = stored Tryz.prog W a (.func fn x y) m := fun W a m fn x y => run_store Tryz.prog W a _ m rfl
  obtain ⟨i1, hj, hy0, hy1, hy2⟩ := info_parts Tryz.zinfo61
  have K := hide (span_mk p w)
  have K2 := hide (fun W => plain_mk p W)
  go_enter Tryz.func26, Tryz.ntmps26
  go_wp2_with fail
  refine (unhide K).mono ?_
  rintro e w1 ⟨v, rfl, ⟨xs, hxl, hrow, hfd⟩, hb⟩
  go_wp2_with fail
  refine ((unhide K2) w1).mono ?_
  rintro e2 w2 ⟨x, rfl, hx, hb2⟩
  obtain ⟨k1, a1, k2, a2, rfl⟩ := hx.shape
  have hs : w.heap.size ≤ w1.heap.size := hb.size
  have hs2 : w1.heap.size ≤ w2.heap.size := hb2.size
  have HM : Hid (∀ o, (w2.alloc o).ownsRow w.heap.size 61 2 v xs.length (fcells xs)) := fun o => World.ownsRow.alloc (own_keep hrow fun g h => hb2.block g (hrow.lt g h).2) o
  have HNEW := hide (fn_new2 w2 w2.heap.size rfl (.func (.func k1) #[] #[.pointer (some ⟨a1, 0, none⟩)]) (.func (.func k2) #[] #[.pointer (some ⟨a2, 0, none⟩)]))
  have HONE : Hid (∀ u ∈ fcell (Value.func (.func k1) #[] #[.pointer (some ⟨a1, 0, none⟩)], Value.func (.func k2) #[] #[.pointer (some ⟨a2, 0, none⟩)]), u.oneCell' = true) := fun u hu => by
    simp only [fcell, List.mem_cons, List.mem_nil_iff, or_false] at hu
    rcases hu with rfl | rfl <;> rfl
  have HF : Hid (∀ o v3 w3, (w2.alloc o).grownBy w3 v.ownBlock → w3.ownsRow w.heap.size 61 2 v3 (2 + 1) (fcells xs ++ fcell (Value.func (.func k1) #[] #[.pointer (some ⟨a1, 0, none⟩)], Value.func (.func k2) #[] #[.pointer (some ⟨a2, 0, none⟩)])) → FdsB w p [0, 1, 3] (.returned v3) w3) := fun o v3 w3 hg hr =>
    fds_app (fs := [0, 1]) (gs := [3]) (ys := [(_, _)]) hxl hrow hfd hb (hb2.trans ((Below.refl w1.heap.size w2).alloc hs2 o)) rfl (fun i hi => by
      match i, hi with
      | 0, _ => exact hx.keep (Bxs.alloc _ _)) hg (by rw [hxl]; simpa [fcells] using hr)
  clear K K2 hrow hfd hb hb2 hx
  have hxl2 : xs.length = 2 := hxl
  rw [hxl2] at HM
  clear hxl hxl2
  go_wp2_with (at_builtin; refine wpList_append_own _ rfl (.tmp 46) (.tmp 49) 55 rfl w.heap.size 61 i1 (.agg #[.nilFunc, .nilFunc]) 2 16 Tryz.underlying55 hj hy0 hy1 hy2 rfl (by decide) _ _ _ rfl ((unhide HM) _) ⟨w2.heap.size, 0, none⟩ 1 1 (fcell (Value.func (.func k1) #[] #[.pointer (some ⟨a1, 0, none⟩)], Value.func (.func k2) #[] #[.pointer (some ⟨a2, 0, none⟩)])) rfl rfl (unhide HNEW) (unhide HONE) (by unfold maxLen; omega) (by omega) (by simp; omega) ?_)
  intro v3 w3 hr3 hg3 _
  have HR := (unhide HF) _ v3 w3 hg3 hr3
  clear HF HM HNEW HONE hr3 hg3
  go_wp2
  go_ret
  exact HR
set_option maxHeartbeats 2000000 in
theorem fields_12 (p : Nat) (w : World) (hk : w.cell? ⟨p, 0, none⟩ = some (.int .i64 12)) : Calls Tryz.prog 26 #[.pointer (some ⟨p, 0, none⟩)] w (FdsB w p [0, 1, 5]) := by
  have hmf : ∀ (fn : Fn) (first cap : Array Value) (w : World), (Instr.makeFunc fn first cap).run Tryz.prog w = .ok (.func fn first cap) w := fun _ _ _ _ => rfl
  have hst : ∀ W a m fn x y, (store a (.func fn x y) m).run Tryz.prog W = stored Tryz.prog W a (.func fn x y) m := fun W a m fn x y => run_store Tryz.prog W a _ m rfl
  obtain ⟨i1, hj, hy0, hy1, hy2⟩ := info_parts Tryz.zinfo61
  have K := hide (span_mk p w)
  have K2 := hide (fun W => name_mk p W)
  go_enter Tryz.func26, Tryz.ntmps26
  go_wp2_with fail
  refine (unhide K).mono ?_
  rintro e w1 ⟨v, rfl, ⟨xs, hxl, hrow, hfd⟩, hb⟩
  go_wp2_with fail
  refine ((unhide K2) w1).mono ?_
  rintro e2 w2 ⟨x, rfl, hx, hb2⟩
  obtain ⟨k1, a1, k2, a2, rfl⟩ := hx.shape
  have hs : w.heap.size ≤ w1.heap.size := hb.size
  have hs2 : w1.heap.size ≤ w2.heap.size := hb2.size
  have HM : Hid (∀ o, (w2.alloc o).ownsRow w.heap.size 61 2 v xs.length (fcells xs)) := fun o => World.ownsRow.alloc (own_keep hrow fun g h => hb2.block g (hrow.lt g h).2) o
  have HNEW := hide (fn_new2 w2 w2.heap.size rfl (.func (.func k1) #[] #[.pointer (some ⟨a1, 0, none⟩)]) (.func (.func k2) #[] #[.pointer (some ⟨a2, 0, none⟩)]))
  have HONE : Hid (∀ u ∈ fcell (Value.func (.func k1) #[] #[.pointer (some ⟨a1, 0, none⟩)], Value.func (.func k2) #[] #[.pointer (some ⟨a2, 0, none⟩)]), u.oneCell' = true) := fun u hu => by
    simp only [fcell, List.mem_cons, List.mem_nil_iff, or_false] at hu
    rcases hu with rfl | rfl <;> rfl
  have HF : Hid (∀ o v3 w3, (w2.alloc o).grownBy w3 v.ownBlock → w3.ownsRow w.heap.size 61 2 v3 (2 + 1) (fcells xs ++ fcell (Value.func (.func k1) #[] #[.pointer (some ⟨a1, 0, none⟩)], Value.func (.func k2) #[] #[.pointer (some ⟨a2, 0, none⟩)])) → FdsB w p [0, 1, 5] (.returned v3) w3) := fun o v3 w3 hg hr =>
    fds_app (fs := [0, 1]) (gs := [5]) (ys := [(_, _)]) hxl hrow hfd hb (hb2.trans ((Below.refl w1.heap.size w2).alloc hs2 o)) rfl (fun i hi => by
      match i, hi with
      | 0, _ => exact hx.keep (Bxs.alloc _ _)) hg (by rw [hxl]; simpa [fcells] using hr)
  clear K K2 hrow hfd hb hb2 hx
  have hxl2 : xs.length = 2 := hxl
  rw [hxl2] at HM
  clear hxl hxl2
  go_wp2_with (at_builtin; refine wpList_append_own _ rfl (.tmp 54) (.tmp 57) 55 rfl w.heap.size 61 i1 (.agg #[.nilFunc, .nilFunc]) 2 16 Tryz.underlying55 hj hy0 hy1 hy2 rfl (by decide) _ _ _ rfl ((unhide HM) _) ⟨w2.heap.size, 0, none⟩ 1 1 (fcell (Value.func (.func k1) #[] #[.pointer (some ⟨a1, 0, none⟩)], Value.func (.func k2) #[] #[.pointer (some ⟨a2, 0, none⟩)])) rfl rfl (unhide HNEW) (unhide HONE) (by unfold maxLen; omega) (by omega) (by simp; omega) ?_)
  intro v3 w3 hr3 hg3 _
  have HR := (unhide HF) _ v3 w3 hg3 hr3
  clear HF HM HNEW HONE hr3 hg3
  go_wp2
  go_ret
  exact HR
set_option maxHeartbeats 2000000 in
theorem fields_14 (p : Nat) (w : World) (hk : w.cell? ⟨p, 0, none⟩ = some (.int .i64 14)) : Calls Tryz.prog 26 #[.pointer (some ⟨p, 0, none⟩)] w (FdsB w p [0, 1, 8]) := by
  have hmf : ∀ (fn : Fn) (first cap : Array Value) (w : World), (Instr.makeFunc fn first cap).run Tryz.prog w = .ok (.func fn first cap) w := fun _ _ _ _ => rfl
  have hst : ∀ W a m fn x y, (store a (.func fn x y) m).run Tryz.prog W = stored Tryz.prog W a (.func fn x y) m := fun W a m fn x y => run_store Tryz.prog W a _ m rfl
  obtain ⟨i1, hj, hy0, hy1, hy2⟩ := info_parts Tryz.zinfo61
  have K := hide (span_mk p w)
  have K2 := hide (fun W => weight_mk p W)
  go_enter Tryz.func26, Tryz.ntmps26
  go_wp2_with fail
  refine (unhide K).mono ?_
  rintro e w1 ⟨v, rfl, ⟨xs, hxl, hrow, hfd⟩, hb⟩
  go_wp2_with fail
  refine ((unhide K2) w1).mono ?_
  rintro e2 w2 ⟨x, rfl, hx, hb2⟩
  obtain ⟨k1, a1, k2, a2, rfl⟩ := hx.shape
  have hs : w.heap.size ≤ w1.heap.size := hb.size
  have hs2 : w1.heap.size ≤ w2.heap.size := hb2.size
  have HM : Hid (∀ o, (w2.alloc o).ownsRow w.heap.size 61 2 v xs.length (fcells xs)) := fun o => World.ownsRow.alloc (own_keep hrow fun g h => hb2.block g (hrow.lt g h).2) o
  have HNEW := hide (fn_new2 w2 w2.heap.size rfl (.func (.func k1) #[] #[.pointer (some ⟨a1, 0, none⟩)]) (.func (.func k2) #[] #[.pointer (some ⟨a2, 0, none⟩)]))
  have HONE : Hid (∀ u ∈ fcell (Value.func (.func k1) #[] #[.pointer (some ⟨a1, 0, none⟩)], Value.func (.func k2) #[] #[.pointer (some ⟨a2, 0, none⟩)]), u.oneCell' = true) := fun u hu => by
    simp only [fcell, List.mem_cons, List.mem_nil_iff, or_false] at hu
    rcases hu with rfl | rfl <;> rfl
  have HF : Hid (∀ o v3 w3, (w2.alloc o).grownBy w3 v.ownBlock → w3.ownsRow w.heap.size 61 2 v3 (2 + 1) (fcells xs ++ fcell (Value.func (.func k1) #[] #[.pointer (some ⟨a1, 0, none⟩)], Value.func (.func k2) #[] #[.pointer (some ⟨a2, 0, none⟩)])) → FdsB w p [0, 1, 8] (.returned v3) w3) := fun o v3 w3 hg hr =>
    fds_app (fs := [0, 1]) (gs := [8]) (ys := [(_, _)]) hxl hrow hfd hb (hb2.trans ((Below.refl w1.heap.size w2).alloc hs2 o)) rfl (fun i hi => by
      match i, hi with
      | 0, _ => exact hx.keep (Bxs.alloc _ _)) hg (by rw [hxl]; simpa [fcells] using hr)
  clear K K2 hrow hfd hb hb2 hx
  have hxl2 : xs.length = 2 := hxl
  rw [hxl2] at HM
  clear hxl hxl2
  go_wp2_with (at_builtin; refine wpList_append_own _ rfl (.tmp 62) (.tmp 65) 55 rfl w.heap.size 61 i1 (.agg #[.nilFunc, .nilFunc]) 2 16 Tryz.underlying55 hj hy0 hy1 hy2 rfl (by decide) _ _ _ rfl ((unhide HM) _) ⟨w2.heap.size, 0, none⟩ 1 1 (fcell (Value.func (.func k1) #[] #[.pointer (some ⟨a1, 0, none⟩)], Value.func (.func k2) #[] #[.pointer (some ⟨a2, 0, none⟩)])) rfl rfl (unhide HNEW) (unhide HONE) (by unfold maxLen; omega) (by omega) (by simp; omega) ?_)
  intro v3 w3 hr3 hg3 _
  have HR := (unhide HF) _ v3 w3 hg3 hr3
  clear HF HM HNEW HONE hr3 hg3
  go_wp2
  go_ret
  exact HR
set_option maxHeartbeats 2000000 in
theorem fields_4 (p : Nat) (w : World) (hk : w.cell? ⟨p, 0, none⟩ = some (.int .i64 4)) : Calls Tryz.prog 26 #[.pointer (some ⟨p, 0, none⟩)] w (FdsB w p [0, 1, 3, 4]) := by
  have hmf : ∀ (fn : Fn) (first cap : Array Value) (w : World), (Instr.makeFunc fn first cap).run Tryz.prog w = .ok (.func fn first cap) w := fun _ _ _ _ => rfl
  have hst : ∀ W a m fn x y, (store a (.func fn x y) m).run Tryz.prog W = stored Tryz.prog W a (.func fn x y) m := fun W a m fn x y => run_store Tryz.prog W a _ m rfl
  obtain ⟨i1, hj, hy0, hy1, hy2⟩ := info_parts Tryz.zinfo61
  have K := hide (span_mk p w)
  have K2 := hide (fun W => plain_mk p W)
  have K3 := hide (fun W => target_mk p W)
  go_enter Tryz.func26, Tryz.ntmps26
  go_wp2_with fail
  refine (unhide K).mono ?_
  rintro e w1 ⟨v, rfl, ⟨xs, hxl, hrow, hfd⟩, hb⟩
  go_wp2_with fail
  refine ((unhide K2) w1).mono ?_
  rintro e2 w2 ⟨x, rfl, hx, hb2⟩
  obtain ⟨k1, a1, k2, a2, rfl⟩ := hx.shape
  go_wp2_with fail
  refine ((unhide K3) w2).mono ?_
  rintro e3 w3 ⟨y, rfl, hy, hb3⟩
  obtain ⟨k3, a3, k4, a4, rfl⟩ := hy.shape
  have hs : w.heap.size ≤ w1.heap.size := hb.size
  have hs2 : w1.heap.size ≤ w2.heap.size := hb2.size
  have hs3 : w2.heap.size ≤ w3.heap.size := hb3.size
  have hb13 : Below w1.heap.size w1 w3 := bthen hb2 hb3
  have HM : Hid (∀ o, (w3.alloc o).ownsRow w.heap.size 61 2 v xs.length (fcells xs)) := fun o => World.ownsRow.alloc (own_keep hrow fun g h => hb13.block g (hrow.lt g h).2) o
  have HNEW := hide (fn_new4 w3 w3.heap.size rfl (Value.func (.func k1) #[] #[.pointer (some ⟨a1, 0, none⟩)]) (Value.func (.func k2) #[] #[.pointer (some ⟨a2, 0, none⟩)]) (Value.func (.func k3) #[] #[.pointer (some ⟨a3, 0, none⟩)]) (Value.func (.func k4) #[] #[.pointer (some ⟨a4, 0, none⟩)]))
  have HONE : Hid (∀ u ∈ fcells [(Value.func (.func k1) #[] #[.pointer (some ⟨a1, 0, none⟩)], Value.func (.func k2) #[] #[.pointer (some ⟨a2, 0, none⟩)]), (Value.func (.func k3) #[] #[.pointer (some ⟨a3, 0, none⟩)], Value.func (.func k4) #[] #[.pointer (some ⟨a4, 0, none⟩)])], u.oneCell' = true) := fun u hu => by
    simp only [fcells, fcell, List.flatMap_cons, List.flatMap_nil, List.cons_append, List.nil_append, List.append_nil, List.mem_cons, List.mem_nil_iff, or_false] at hu
    rcases hu with rfl | rfl | rfl | rfl <;> rfl
  have HF : Hid (∀ o v4 w4, (w3.alloc o).grownBy w4 v.ownBlock → w4.ownsRow w.heap.size 61 2 v4 (2 + 2) (fcells xs ++ fcells [(Value.func (.func k1) #[] #[.pointer (some ⟨a1, 0, none⟩)], Value.func (.func k2) #[] #[.pointer (some ⟨a2, 0, none⟩)]), (Value.func (.func k3) #[] #[.pointer (some ⟨a3, 0, none⟩)], Value.func (.func k4) #[] #[.pointer (some ⟨a4, 0, none⟩)])]) → FdsB w p [0, 1, 3, 4] (.returned v4) w4) := fun o v4 w4 hg hr =>
    fds_app (fs := [0, 1]) (gs := [3, 4]) (ys := [(_, _), (_, _)]) hxl hrow hfd hb (hb13.trans ((Below.refl w1.heap.size w3).alloc (by omega) o)) rfl (fun i hi => by
      match i, hi with
      | 0, _ => exact (hx.below hb3).keep (Bxs.alloc _ _)
      | 1, _ => exact hy.keep (Bxs.alloc _ _)) hg (by rw [hxl]; simpa [fcells] using hr)
  clear K K2 K3 hrow hfd hb hb2 hb3 hb13 hx hy
  have hxl2 : xs.length = 2 := hxl
  rw [hxl2] at HM
  clear hxl hxl2
  go_wp2_with (at_builtin; refine wpList_append_own _ rfl (.tmp 24) (.tmp 29) 55 rfl w.heap.size 61 i1 (.agg #[.nilFunc, .nilFunc]) 2 16 Tryz.underlying55 hj hy0 hy1 hy2 rfl (by decide) _ _ _ rfl ((unhide HM) _) ⟨w3.heap.size, 0, none⟩ 2 2 (fcells [(Value.func (.func k1) #[] #[.pointer (some ⟨a1, 0, none⟩)], Value.func (.func k2) #[] #[.pointer (some ⟨a2, 0, none⟩)]), (Value.func (.func k3) #[] #[.pointer (some ⟨a3, 0, none⟩)], Value.func (.func k4) #[] #[.pointer (some ⟨a4, 0, none⟩)])]) rfl rfl (unhide HNEW) (unhide HONE) (by unfold maxLen; omega) (by omega) (by simp; omega) ?_)
  intro v4 w4 hr4 hg4 _
  have HR := (unhide HF) _ v4 w4 hg4 hr4
  clear HF HM HNEW HONE hr4 hg4
  go_wp2
  go_ret
  exact HR
set_option maxHeartbeats 2000000 in
theorem fields_5 (p : Nat) (w : World) (hk : w.cell? ⟨p, 0, none⟩ = some (.int .i64 5)) : Calls Tryz.prog 26 #[.pointer (some ⟨p, 0, none⟩)] w (FdsB w p [2, 7]) := by
  have hmf : ∀ (fn : Fn) (first cap : Array Value) (w : World), (Instr.makeFunc fn first cap).run Tryz.prog w = .ok (.func fn first cap) w := fun _ _ _ _ => rfl
  have hst : ∀ W a m fn x y, (store a (.func fn x y) m).run Tryz.prog W = stored Tryz.prog W a (.func fn x y) m := fun W a m fn x y => run_store Tryz.prog W a _ m rfl
  have K0 := hide (fun W => alone_mk p W)
  have K1 := hide (fun W => list_mk p W)
  go_enter Tryz.func26, Tryz.ntmps26
  go_wp2_with fail
  refine ((unhide K0) w).mono ?_
  rintro e0 w0 ⟨x0, rfl, hx0, hb0⟩
  obtain ⟨k0, a0, l0, c0, rfl⟩ := hx0.shape
  go_wp2_with fail
  refine ((unhide K1) w0).mono ?_
  rintro e1 w1 ⟨x1, rfl, hx1, hb1⟩
  obtain ⟨k1, a1, l1, c1, rfl⟩ := hx1.shape
  have hall : Below w.heap.size w w1 := (bthen hb0 hb1)
  have hsz := hall.size
  have HF : Hid (∀ o v, (w1.alloc o).ownsRow w.heap.size 61 2 v 2 (fcells [(Value.func (.func k0) #[] #[.pointer (some ⟨a0, 0, none⟩)], Value.func (.func l0) #[] #[.pointer (some ⟨c0, 0, none⟩)]), (Value.func (.func k1) #[] #[.pointer (some ⟨a1, 0, none⟩)], Value.func (.func l1) #[] #[.pointer (some ⟨c1, 0, none⟩)])]) → FdsB w p [2, 7] (.returned v) (w1.alloc o)) := fun o v hr => ⟨v, rfl, ⟨_, rfl, hr, fun i hi => by
    match i, hi with
    | 0, _ => exact (hx0.below hb1).keep (Bxs.alloc _ _)
    | 1, _ => exact hx1.keep (Bxs.alloc _ _)⟩, hall.alloc hsz o⟩
  clear K0 hx0 hb0 K1 hx1 hb1 hall
  go_wp2
  go_ret
  refine (unhide HF) _ (.slice (some ⟨w1.heap.size, 0, none⟩) 2 2) ?_
  exact row_new _ _ 2 _ rfl _ _ hsz rfl (by omega) rfl (by omega)
set_option maxHeartbeats 2000000 in
theorem fields_7 (p : Nat) (w : World) (hk : w.cell? ⟨p, 0, none⟩ = some (.int .i64 7)) : Calls Tryz.prog 26 #[.pointer (some ⟨p, 0, none⟩)] w (FdsB w p [2, 7]) := by
  have hmf : ∀ (fn : Fn) (first cap : Array Value) (w : World), (Instr.makeFunc fn first cap).run Tryz.prog w = .ok (.func fn first cap) w := fun _ _ _ _ => rfl
  have hst : ∀ W a m fn x y, (store a (.func fn x y) m).run Tryz.prog W = stored Tryz.prog W a (.func fn x y) m := fun W a m fn x y => run_store Tryz.prog W a _ m rfl
  have K0 := hide (fun W => alone_mk p W)
  have K1 := hide (fun W => list_mk p W)
  go_enter Tryz.func26, Tryz.ntmps26
  go_wp2_with fail
  refine ((unhide K0) w).mono ?_
  rintro e0 w0 ⟨x0, rfl, hx0, hb0⟩
  obtain ⟨k0, a0, l0, c0, rfl⟩ := hx0.shape
  go_wp2_with fail
  refine ((unhide K1) w0).mono ?_
  rintro e1 w1 ⟨x1, rfl, hx1, hb1⟩
  obtain ⟨k1, a1, l1, c1, rfl⟩ := hx1.shape
  have hall : Below w.heap.size w w1 := (bthen hb0 hb1)
  have hsz := hall.size
  have HF : Hid (∀ o v, (w1.alloc o).ownsRow w.heap.size 61 2 v 2 (fcells [(Value.func (.func k0) #[] #[.pointer (some ⟨a0, 0, none⟩)], Value.func (.func l0) #[] #[.pointer (some ⟨c0, 0, none⟩)]), (Value.func (.func k1) #[] #[.pointer (some ⟨a1, 0, none⟩)], Value.func (.func l1) #[] #[.pointer (some ⟨c1, 0, none⟩)])]) → FdsB w p [2, 7] (.returned v) (w1.alloc o)) := fun o v hr => ⟨v, rfl, ⟨_, rfl, hr, fun i hi => by
    match i, hi with
    | 0, _ => exact (hx0.below hb1).keep (Bxs.alloc _ _)
    | 1, _ => exact hx1.keep (Bxs.alloc _ _)⟩, hall.alloc hsz o⟩
  clear K0 hx0 hb0 K1 hx1 hb1 hall
  go_wp2
  go_ret
  refine (unhide HF) _ (.slice (some ⟨w1.heap.size, 0, none⟩) 2 2) ?_
  exact row_new _ _ 2 _ rfl _ _ hsz rfl (by omega) rfl (by omega)
set_option maxHeartbeats 2000000 in
theorem fields_8 (p : Nat) (w : World) (hk : w.cell? ⟨p, 0, none⟩ = some (.int .i64 8)) : Calls Tryz.prog 26 #[.pointer (some ⟨p, 0, none⟩)] w (FdsB w p [2, 7]) := by
  have hmf : ∀ (fn : Fn) (first cap : Array Value) (w : World), (Instr.makeFunc fn first cap).run Tryz.prog w = .ok (.func fn first cap) w := fun _ _ _ _ => rfl
  have hst : ∀ W a m fn x y, (store a (.func fn x y) m).run Tryz.prog W = stored Tryz.prog W a (.func fn x y) m := fun W a m fn x y => run_store Tryz.prog W a _ m rfl
  have K0 := hide (fun W => alone_mk p W)
  have K1 := hide (fun W => list_mk p W)
  go_enter Tryz.func26, Tryz.ntmps26
  go_wp2_with fail
  refine ((unhide K0) w).mono ?_
  rintro e0 w0 ⟨x0, rfl, hx0, hb0⟩
  obtain ⟨k0, a0, l0, c0, rfl⟩ := hx0.shape
  go_wp2_with fail
  refine ((unhide K1) w0).mono ?_
  rintro e1 w1 ⟨x1, rfl, hx1, hb1⟩
  obtain ⟨k1, a1, l1, c1, rfl⟩ := hx1.shape
  have hall : Below w.heap.size w w1 := (bthen hb0 hb1)
  have hsz := hall.size
  have HF : Hid (∀ o v, (w1.alloc o).ownsRow w.heap.size 61 2 v 2 (fcells [(Value.func (.func k0) #[] #[.pointer (some ⟨a0, 0, none⟩)], Value.func (.func l0) #[] #[.pointer (some ⟨c0, 0, none⟩)]), (Value.func (.func k1) #[] #[.pointer (some ⟨a1, 0, none⟩)], Value.func (.func l1) #[] #[.pointer (some ⟨c1, 0, none⟩)])]) → FdsB w p [2, 7] (.returned v) (w1.alloc o)) := fun o v hr => ⟨v, rfl, ⟨_, rfl, hr, fun i hi => by
    match i, hi with
    | 0, _ => exact (hx0.below hb1).keep (Bxs.alloc _ _)
    | 1, _ => exact hx1.keep (Bxs.alloc _ _)⟩, hall.alloc hsz o⟩
  clear K0 hx0 hb0 K1 hx1 hb1 hall
  go_wp2
  go_ret
  refine (unhide HF) _ (.slice (some ⟨w1.heap.size, 0, none⟩) 2 2) ?_
  exact row_new _ _ 2 _ rfl _ _ hsz rfl (by omega) rfl (by omega)
set_option maxHeartbeats 2000000 in
theorem fields_13 (p : Nat) (w : World) (hk : w.cell? ⟨p, 0, none⟩ = some (.int .i64 13)) : Calls Tryz.prog 26 #[.pointer (some ⟨p, 0, none⟩)] w (FdsB w p [2, 7]) := by
  have hmf : ∀ (fn : Fn) (first cap : Array Value) (w : World), (Instr.makeFunc fn first cap).run Tryz.prog w = .ok (.func fn first cap) w := fun _ _ _ _ => rfl
  have hst : ∀ W a m fn x y, (store a (.func fn x y) m).run Tryz.prog W = stored Tryz.prog W a (.func fn x y) m := fun W a m fn x y => run_store Tryz.prog W a _ m rfl
  have K0 := hide (fun W => alone_mk p W)
  have K1 := hide (fun W => list_mk p W)
  go_enter Tryz.func26, Tryz.ntmps26
  go_wp2_with fail
  refine ((unhide K0) w).mono ?_
  rintro e0 w0 ⟨x0, rfl, hx0, hb0⟩
  obtain ⟨k0, a0, l0, c0, rfl⟩ := hx0.shape
  go_wp2_with fail
  refine ((unhide K1) w0).mono ?_
  rintro e1 w1 ⟨x1, rfl, hx1, hb1⟩
  obtain ⟨k1, a1, l1, c1, rfl⟩ := hx1.shape
  have hall : Below w.heap.size w w1 := (bthen hb0 hb1)
  have hsz := hall.size
  have HF : Hid (∀ o v, (w1.alloc o).ownsRow w.heap.size 61 2 v 2 (fcells [(Value.func (.func k0) #[] #[.pointer (some ⟨a0, 0, none⟩)], Value.func (.func l0) #[] #[.pointer (some ⟨c0, 0, none⟩)]), (Value.func (.func k1) #[] #[.pointer (some ⟨a1, 0, none⟩)], Value.func (.func l1) #[] #[.pointer (some ⟨c1, 0, none⟩)])]) → FdsB w p [2, 7] (.returned v) (w1.alloc o)) := fun o v hr => ⟨v, rfl, ⟨_, rfl, hr, fun i hi => by
    match i, hi with
    | 0, _ => exact (hx0.below hb1).keep (Bxs.alloc _ _)
    | 1, _ => exact hx1.keep (Bxs.alloc _ _)⟩, hall.alloc hsz o⟩
  clear K0 hx0 hb0 K1 hx1 hb1 hall
  go_wp2
  go_ret
  refine (unhide HF) _ (.slice (some ⟨w1.heap.size, 0, none⟩) 2 2) ?_
  exact row_new _ _ 2 _ rfl _ _ hsz rfl (by omega) rfl (by omega)
set_option maxHeartbeats 2000000 in
theorem fields_15 (p : Nat) (w : World) (hk : w.cell? ⟨p, 0, none⟩ = some (.int .i64 15)) : Calls Tryz.prog 26 #[.pointer (some ⟨p, 0, none⟩)] w (FdsB w p [5, 6, 8]) := by
  have hmf : ∀ (fn : Fn) (first cap : Array Value) (w : World), (Instr.makeFunc fn first cap).run Tryz.prog w = .ok (.func fn first cap) w := fun _ _ _ _ => rfl
  have hst : ∀ W a m fn x y, (store a (.func fn x y) m).run Tryz.prog W = stored Tryz.prog W a (.func fn x y) m := fun W a m fn x y => run_store Tryz.prog W a _ m rfl
  have K0 := hide (fun W => name_mk p W)
  have K1 := hide (fun W => other_mk p W)
  have K2 := hide (fun W => weight_mk p W)
  go_enter Tryz.func26, Tryz.ntmps26
  go_wp2_with fail
  refine ((unhide K0) w).mono ?_
  rintro e0 w0 ⟨x0, rfl, hx0, hb0⟩
  obtain ⟨k0, a0, l0, c0, rfl⟩ := hx0.shape
  go_wp2_with fail
  refine ((unhide K1) w0).mono ?_
  rintro e1 w1 ⟨x1, rfl, hx1, hb1⟩
  obtain ⟨k1, a1, l1, c1, rfl⟩ := hx1.shape
  go_wp2_with fail
  refine ((unhide K2) w1).mono ?_
  rintro e2 w2 ⟨x2, rfl, hx2, hb2⟩
  obtain ⟨k2, a2, l2, c2, rfl⟩ := hx2.shape
  have hall : Below w.heap.size w w2 := (bthen (bthen hb0 hb1) hb2)
  have hsz := hall.size
  have HF : Hid (∀ o v, (w2.alloc o).ownsRow w.heap.size 61 2 v 3 (fcells [(Value.func (.func k0) #[] #[.pointer (some ⟨a0, 0, none⟩)], Value.func (.func l0) #[] #[.pointer (some ⟨c0, 0, none⟩)]), (Value.func (.func k1) #[] #[.pointer (some ⟨a1, 0, none⟩)], Value.func (.func l1) #[] #[.pointer (some ⟨c1, 0, none⟩)]), (Value.func (.func k2) #[] #[.pointer (some ⟨a2, 0, none⟩)], Value.func (.func l2) #[] #[.pointer (some ⟨c2, 0, none⟩)])]) → FdsB w p [5, 6, 8] (.returned v) (w2.alloc o)) := fun o v hr => ⟨v, rfl, ⟨_, rfl, hr, fun i hi => by
    match i, hi with
    | 0, _ => exact ((hx0.below hb1).below hb2).keep (Bxs.alloc _ _)
    | 1, _ => exact (hx1.below hb2).keep (Bxs.alloc _ _)
    | 2, _ => exact hx2.keep (Bxs.alloc _ _)⟩, hall.alloc hsz o⟩
  clear K0 hx0 hb0 K1 hx1 hb1 K2 hx2 hb2 hall
  go_wp2
  go_ret
  refine (unhide HF) _ (.slice (some ⟨w2.heap.size, 0, none⟩) 3 3) ?_
  exact row_new _ _ 3 _ rfl _ _ hsz rfl (by omega) rfl (by omega)
theorem fields_any (p : Nat) (k : Int) (w : World) (hf : Cn.fam k ≠ 0) (hk : w.cell? ⟨p, 0, none⟩ = some (.int .i64 k)) : Calls Tryz.prog 26 #[.pointer (some ⟨p, 0, none⟩)] w (FdsB w p (Pk.form k)) := by
  have h1 : 1 ≤ k ∧ k ≤ 15 := by
    unfold Cn.fam at hf
    by_cases h : k < 1 ∨ 15 < k
    · rw [if_pos h] at hf; exact absurd rfl hf
    · omega
  clear hf
  have h2 : k = 1 ∨ k = 2 ∨ k = 3 ∨ k = 4 ∨ k = 5 ∨ k = 6 ∨ k = 7 ∨ k = 8 ∨ k = 9 ∨ k = 10 ∨ k = 11 ∨ k = 12 ∨ k = 13 ∨ k = 14 ∨ k = 15 := by omega
  rcases h2 with rfl | rfl | rfl | rfl | rfl | rfl | rfl | rfl | rfl | rfl | rfl | rfl | rfl | rfl | rfl
  · exact fields_1 p w hk
  · exact fields_2 p w hk
  · exact fields_3 p w hk
  · exact fields_4 p w hk
  · exact fields_5 p w hk
  · exact fields_6 p w hk
  · exact fields_7 p w hk
  · exact fields_8 p w hk
  · exact fields_9 p w hk
  · exact fields_10 p w hk
  · exact fields_11 p w hk
  · exact fields_12 p w hk
  · exact fields_13 p w hk
  · exact fields_14 p w hk
  · exact fields_15 p w hk
end Go.Proofs.YtdnkfnccbmbpaaaGreatDoor
