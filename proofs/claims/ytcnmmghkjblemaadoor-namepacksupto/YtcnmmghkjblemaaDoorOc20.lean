/- The document's Sorted of chapter 20. -/
import Derived.Test.YtcnmmghkjblemaaDoorOb20
import Derived.Deep.RegionHeld3
namespace Go.Proofs.YtcnmmghkjblemaaDoor
open Go.RowKit

theorem cut_shape20 {ao : Option Addr} {a p cap : Nat} (h : ¬ cap = a) : sliced ao a p cap 1 = .slice (ao.map fun x => x.add a) (p - a) (cap - a) := by
  unfold sliced
  rw [if_neg h, Nat.mul_one]
theorem tx_app20 (xv : Nat → ByteArray) (a b : List Nat) : tx20 xv (a ++ b) = tx20 xv a ++ tx20 xv b := by simp [tx20]
theorem tx_one20 (xv : Nat → ByteArray) (l : List Nat) : ∀ u ∈ tx20 xv l, u.oneCell' = true := by
  intro u hu
  obtain ⟨z, _, rfl⟩ := List.mem_map.1 hu
  rfl
theorem tx_take20 (xv : Nat → ByteArray) (l : List Nat) (k : Nat) : (tx20 xv l).take k = tx20 xv (l.take k) := by simp [tx20, List.map_take]
theorem tx_drop20 (xv : Nat → ByteArray) (l : List Nat) (k : Nat) : (tx20 xv l).drop k = tx20 xv (l.drop k) := by simp [tx20, List.map_drop]
set_option maxRecDepth 8000 in
set_option maxHeartbeats 4000000 in
theorem refSorted20 {w : World} {v : Value} {X : List (List Int)} (h : Sv w v (txt20 X)) (hF : ∀ a ∈ X, Byt a ∧ a.length ≤ 1000000000) (hl : X.length ≤ 100000) : Calls Tryd.prog 25 #[v] w (TxtB20 w (Na.srt X)) := by
  obtain ⟨i0, hi, hz0, hz1, hz2⟩ := parts20 inf20
  have hget : ∀ p, Byt (X.getD p []) ∧ (X.getD p []).length ≤ 1000000000 := fun p => by
    rcases Nat.lt_or_ge p X.length with hp | hp
    · exact hF _ (by simp [List.getD, hp])
    · rw [List.getD, List.getElem?_eq_none hp]; exact ⟨fun z hz => (by cases hz), by simp⟩
  obtain ⟨ax, cx, rfl, _, hcx⟩ := txt_cells20 h
  have HX : Hid (∀ k, k < X.length → ∃ b off, ax = some ⟨b, off, none⟩ ∧ ∀ W, Below w.heap.size w W → W.cell? ⟨b, off + k, none⟩ = some (.string (xv20 X k))) := hcx
  have KC : Hid (∀ p q, p < X.length → q < X.length → ∀ W, Calls Tryd.prog 21 #[.string (xv20 X p), .string (xv20 X q)] W (IntN20 W (Pu.cmpI ((Na.rnks X).getD p 0) ((Na.rnks X).getD q 0)))) := fun p q hp hq W => by
    have := refCompare20 (xv20 X p) (xv20 X q) W (by unfold xv20; rw [strOf_size20]; exact (hget p).2) (by unfold xv20; rw [strOf_size20]; exact (hget q).2)
    have e : Na.cmp (nums (xv20 X p)) (nums (xv20 X q)) = Pu.cmpI ((Na.rnks X).getD p 0) ((Na.rnks X).getD q 0) := by
      unfold xv20
      rw [nums_str20 (hget p).1, nums_str20 (hget q).1]
      exact Na.rnk_cmp hp hq
    rw [e] at this
    exact this
  have HFIN : Hid (∀ L W u, L.Perm (List.range X.length) → Pu.SR (Na.rnks X) L 0 X.length → Ow 9 W w.heap.size u (tx20 (xv20 X) L) → Below w.heap.size w W → TxtB20 w (Na.srt X) (.returned u) W) := fun L W u h1 h2 h3 h4 => by
    have := Na.plc_uniq h1 h2
    subst this
    exact ⟨u, rfl, by rw [txt_srt20]; exact h3, h4⟩
  have HINS : Hid (∀ (L : List Nat) (i k : Nat), L.Perm (List.range i) → Pu.SR (Na.rnks X) L 0 i → k ≤ i → (k = 0 ∨ (Na.rnks X).getD (L.getD (k - 1) 0) 0 ≤ (Na.rnks X).getD i 0) → (∀ j, k ≤ j → j < i → (Na.rnks X).getD i 0 < (Na.rnks X).getD (L.getD j 0) 0) → (L.take k ++ i :: L.drop k).Perm (List.range (i + 1)) ∧ Pu.SR (Na.rnks X) (L.take k ++ i :: L.drop k) 0 (i + 1)) := fun L i k a1 a2 a3 a4 a5 => Na.ins_step a1 a2 a3 a4 a5
  clear h hF hget hcx
  generalize Na.srt X = Z at *
  generalize Na.rnks X = R at *
  generalize xv20 X = xv at *
  generalize X.length = n at *
  go_enter Tryd.func25, Tryd.ntmps25
  go_wp2
  go_loopw [3, 4, 5, 6] (fun vo vi _ _ wr => ∃ (i : Nat) (L : List Nat), vi = .int .i64 i ∧ i ≤ n ∧ Ow 9 wr w.heap.size vo (tx20 xv L) ∧ L.Perm (List.range i) ∧ Pu.SR R L 0 i ∧ Below w.heap.size w wr) (fun _ vi _ _ _ => n - (intOf vi).toNat)
  case atStart => exact ⟨0, [], rfl, by omega, Ow.nil _ _ _, List.Perm.refl _, fun i j _ _ h => by omega, Below.refl _ _⟩
  case round =>
    obtain ⟨i, L, rfl, hin, ho, hp, hs, hb⟩ := hrel
    have hLl : L.length = i := by rw [hp.length_eq]; simp
    by_cases h1 : i < n
    · obtain ⟨bx, ox, rfl, hcx⟩ := unhide HX i h1
      have I1 : (i : Int) < n := by omega
      have HLT : Hid (∀ j, j < i → L.getD j 0 < n) := fun j hj => by
        have : L.getD j 0 ∈ L := by simp [List.getD, hLl, hj]
        have := List.mem_range.1 (hp.subset this)
        omega
      have HCE : Hid (∀ j, j < i → ∀ g cap, (∃ n', Ow 9 wr w.heap.size (.slice (some ⟨g, 0, none⟩) n' cap) (tx20 xv L)) → ∀ W, Below wr.heap.size wr W → W.cell? ⟨g, j, none⟩ = some (.string (xv (L.getD j 0)))) := fun j hj g cap hh W hW => by
        obtain ⟨n', hh⟩ := hh
        obtain ⟨b2, o2, c2, he, _, _, hc⟩ := (hh.sv.below hW).place (by rw [tx_len20]; omega)
        simp only [Value.slice.injEq, Option.some.injEq, Addr.mk.injEq] at he
        obtain ⟨⟨rfl, rfl, _⟩, _, _⟩ := he
        have := hc j (by rw [tx_len20]; omega)
        rw [Nat.zero_add, tx_at20 xv (by omega)] at this
        exact this
      obtain ⟨ao, co, rfl, ho1, ho2⟩ := ho.sv.shape
      rw [tx_len20] at *
      have HO := hide ho
      have HCX := hide hcx
      have HP := hide hp
      have HS := hide hs
      have HB := hide hb
      have HK : Hid (∀ j, j < i → ∀ W, Calls Tryd.prog 21 #[.string (xv (L.getD j 0)), .string (xv i)] W (IntN20 W (Pu.cmpI (R.getD (L.getD j 0) 0) (R.getD i 0)))) := fun j hj W => unhide KC _ _ (unhide HLT j hj) h1 W
      clear ho hcx hp hs hb
      obtain ⟨wo, hwo⟩ : ∃ wo, wo = wr := ⟨_, rfl⟩
      subst hwo
      go_wp2
      go_loopw [5] (fun vk wr => ∃ k : Nat, vk = .int .i64 k ∧ k ≤ i ∧ (∀ j, k ≤ j → j < i → R.getD i 0 < R.getD (L.getD j 0) 0) ∧ Below wo.heap.size wo wr) (fun vk _ => (intOf vk).toNat)
      case atStart => exact ⟨i, rfl, Nat.le_refl _, fun j a b => by omega, Below.refl _ _⟩
      case round =>
        obtain ⟨k, rfl, hki, hgt, hb2⟩ := hrel
        have HGT := hide hgt
        have HB2 := hide hb2
        clear hb2 hgt
        rcases (unhide HO).2.2 with ⟨hn, h0⟩ | ⟨g, c0, cur, he, _⟩
        · rw [tx_len20] at h0
          obtain rfl : L = [] := List.eq_nil_of_length_eq_zero h0
          obtain rfl : i = 0 := by rw [← hLl]; rfl
          obtain rfl : k = 0 := by omega
          simp only [List.length_nil, Value.slice.injEq] at hn
          obtain ⟨rfl, -, rfl⟩ := hn
          have HRES := hide (unhide HINS [] 0 0 (unhide HP) (unhide HS) (Nat.le_refl _) (.inl rfl) (unhide HGT))
          have hx0 : ∀ W, Below wr.heap.size wr W → W.cell? ⟨bx, ox + 0, none⟩ = some (.string (xv 0)) := fun W hW => unhide HCX W (bthen (unhide HB) (bthen (unhide HB2) hW))
          have HX0 := hide hx0
          have HBW := hide (bthen (unhide HB) (unhide HB2))
          clear HP HS HK HGT HINS KC HLT HFIN HCE HO HCX HB HB2 hx0 HX
          go_wp2
          go_quiet (fail)
          have hbq : Below wr.heap.size wr (wr.drewN nq) := drewB ⟨nq, rfl⟩
          have HBQ := hide hbq
          clear hbq
          generalize wr.drewN nq = wd at *
          have x2 := unhide HX0 wd (unhide HBQ)
          rw [Nat.add_zero] at x2
          go_wp2_with (first | (at_builtin; refine wpList_append_own_none rfl (.tmp 32) (.tmp 35) 32 rfl wd.heap.size 9 i0 1 Tryd.underlying32 hi _ 0 [] rfl (World.ownsRow_nil _ _ _ _) rfl ?_) | (at_builtin; refine wp_app20 rfl (.tmp 37) (.tmp 42) 32 rfl wd.heap.size 9 i0 (.string ⟨#[]⟩) 16 Tryd.underlying32 hi hz0 hz1 hz2 rfl _ _ [] [Value.string (xv 0)] rfl (Ow.nil _ _ _) rfl (sv_new20 wd 9 [.string (xv 0)] (by simp)) (str_one20 _) (by simp) (by decide) (by simp) ?_))
          intro v3 w3 o3 f3
          have b3 : Below wd.heap.size wd w3 := f3 _ ((Below.refl _ _).alloc (Nat.le_refl _) _)
          have O3 : Ow 9 w3 wd.heap.size v3 [Value.string (xv 0)] := by simpa using o3
          go_wp2_with (at_builtin; refine wpList_append_own_none rfl (.tmp 44) (.tmp 47) 32 rfl wd.heap.size 9 i0 1 Tryd.underlying32 hi _ _ _ rfl O3.2 rfl ?_)
          have HR : Hid (Ow 9 w3 w.heap.size v3 (tx20 xv ([] ++ 0 :: []))) := by
            show Ow _ _ _ _ _
            exact Ow.lower (by simpa [tx20] using O3) (bthen (unhide HBW) (unhide HBQ)).size
          have HB4 := hide (bthen (unhide HBW) (bthen (unhide HBQ) b3))
          clear o3 O3 f3 b3 x2 HX0
          go_wp2
          go_roundw
          case rel => exact ⟨1, [] ++ 0 :: [], by go_num, by omega, unhide HR, (unhide HRES).1, (unhide HRES).2, unhide HB4⟩
          case measure => simp [intOf]; omega
        · obtain rfl : ao = some ⟨g, 0, none⟩ := by
            simp only [Value.slice.injEq] at he
            exact he.1
          clear he
          have HLL : Hid (∀ M : List Nat, M = L → M.length = i) := fun M hM => by rw [hM]; exact hLl
          rw [hLl] at *
          have hLi : L.length = i := unhide HLL L rfl
          rcases Nat.eq_zero_or_pos k with hk0 | hk0
          · have hd0 : decide ((0 : Int) < (k : Int)) = false := by simp; omega
            have HK0 : Hid (k = 0 ∨ R.getD (L.getD (k - 1) 0) 0 ≤ R.getD i 0) := .inl hk0
            have hd1 : decide (0 < k) = false := by simp; omega
            have hd2 : ¬ (0 < k) := by omega
            have hd3 : ¬ ((0 : Int) < (k : Int)) := by omega
            clear hk0
            go_wp2
            go_quiet (fail)
            have HB3 := hide (bthen (unhide HB2) (drewB ⟨nq, rfl⟩))
            clear HB2
            have HB2 := HB3
            clear HB3 hd0 hd1 hd2 hd3
            generalize wr.drewN nq = wd at *
            have HRES := hide (unhide HINS L i k (unhide HP) (unhide HS) hki (unhide HK0) (unhide HGT))
            have hzr := (unhide HB2).size
            have HBW := hide (bthen (unhide HB) (unhide HB2))
            have HOR := hide ((unhide HO).below (unhide HB2))
            clear HP HS HK HK0 HGT HINS KC HLT HFIN
            have hc1 := ((unhide HOR).sv.head (k := k) (by omega) ho1)
            rw [tx_take20] at hc1
            have hc2 := (unhide HOR).sv.cut (l := k) (h := i) (m := co) (by omega) (by omega) (by omega) (Nat.le_refl _)
            rw [List.take_of_length_le (by rw [List.length_drop, tx_len20]; omega), tx_drop20] at hc2
            obtain ⟨u2, hu2⟩ : ∃ u2, u2 = sliced (some ⟨g, 0, none⟩) k i co 1 := ⟨_, rfl⟩
            rw [← hu2] at hc2
            have HC1 := hide hc1
            have HC2 := hide hc2
            have hl1 : (L.take k).length ≤ 100000 := by rw [List.length_take]; omega
            have hl2 : (L.drop k).length ≤ 100000 := by rw [List.length_drop]; omega
            have q1 : (k : Int) ≤ (i : Int) := by omega
            have q2 : (k : Int) ≤ (co : Int) := by omega
            have q3 : (i : Int) ≤ (co : Int) := by omega
            have q4 : (0 : Int) ≤ (k : Int) := by omega
            clear hc1 hc2
            go_wp2_with (at_builtin; refine wp_app20 rfl (.tmp 32) (.tmp 35) 32 rfl wd.heap.size 9 i0 (.string ⟨#[]⟩) 16 Tryd.underlying32 hi hz0 hz1 hz2 rfl _ _ [] (tx20 xv (L.take k)) rfl (Ow.nil _ _ _) rfl (unhide HC1) (tx_one20 _ _) (by rw [tx_len20]; simp; omega) (by decide) (Nat.le_refl _) ?_)
            intro v2 w2 o2 f2
            have b2 : Below wd.heap.size wd w2 := f2 _ (Below.refl _ _)
            have x2 := unhide HCX w2 (bthen (unhide HBW) b2)
            have O2 := hide o2
            have B2 := hide b2
            have z2 := b2.size
            clear o2 f2 b2
            go_wp2_with (at_builtin; refine wp_app20 rfl (.tmp 37) (.tmp 42) 32 rfl wd.heap.size 9 i0 (.string ⟨#[]⟩) 16 Tryd.underlying32 hi hz0 hz1 hz2 rfl _ _ (tx20 xv (L.take k)) [.string (xv i)] rfl ((unhide O2).below ((Below.refl _ _).alloc (Nat.le_refl _) _)) rfl (sv_new20 w2 9 [.string (xv i)] (by simp)) (str_one20 _) (by rw [tx_len20]; simp; omega) (by decide) (by simp; omega) ?_)
            intro v3 w3 o3 f3
            have b3 : Below wd.heap.size wd w3 := f3 _ ((unhide B2).alloc z2 _)
            have O3 := hide o3
            have B3 := hide b3
            have z3 := b3.size
            clear o3 f3 b3 x2 O2 B2
            by_cases hm : co = k
            · have e2 : u2 = .slice (some ⟨g, 0, none⟩) (i - k) 0 := by rw [hu2]; unfold sliced; rw [if_pos hm, hm, Nat.sub_self]
              subst e2
              clear hu2
              go_wp2_with (at_builtin; refine wp_app20 rfl (.tmp 44) (.tmp 47) 32 rfl wd.heap.size 9 i0 (.string ⟨#[]⟩) 16 Tryd.underlying32 hi hz0 hz1 hz2 rfl _ _ (tx20 xv (L.take k) ++ [Value.string (xv i)]) (tx20 xv (L.drop k)) rfl (unhide O3) rfl ((unhide HC2).below (unhide B3)) (tx_one20 _ _) (by have := tx_len20 xv (L.take k); have := tx_len20 xv (L.drop k); simp only [List.length_append, List.length_singleton]; omega) (by decide) z3 ?_)
              intro v4 w4 o4 f4
              have b4 : Below wd.heap.size wd w4 := f4 _ (unhide B3)
              have HR : Hid (Ow 9 w4 w.heap.size v4 (tx20 xv (L.take k ++ i :: L.drop k))) := by
                have e : tx20 xv (L.take k ++ i :: L.drop k) = tx20 xv (L.take k) ++ [.string (xv i)] ++ tx20 xv (L.drop k) := by simp [tx20]
                show Ow _ _ _ _ _
                rw [e]
                exact Ow.lower (by simpa using o4) (unhide HBW).size
              have HB4 := hide (bthen (unhide HBW) b4)
              clear o4 f4 b4 O3 B3 HC1 HC2
              go_wp2
              go_roundw
              case rel => exact ⟨i + 1, L.take k ++ i :: L.drop k, by go_num, by omega, unhide HR, (unhide HRES).1, (unhide HRES).2, unhide HB4⟩
              case measure => simp [intOf]; omega
            · have e2 : u2 = .slice (some ⟨g, k, none⟩) (i - k) (co - k) := by rw [hu2, cut_shape20 hm]; simp only [Option.map_some, addr_add, Nat.zero_add]
              subst e2
              clear hu2
              go_wp2_with (at_builtin; refine wp_app20 rfl (.tmp 44) (.tmp 47) 32 rfl wd.heap.size 9 i0 (.string ⟨#[]⟩) 16 Tryd.underlying32 hi hz0 hz1 hz2 rfl _ _ (tx20 xv (L.take k) ++ [Value.string (xv i)]) (tx20 xv (L.drop k)) rfl (unhide O3) rfl ((unhide HC2).below (unhide B3)) (tx_one20 _ _) (by have := tx_len20 xv (L.take k); have := tx_len20 xv (L.drop k); simp only [List.length_append, List.length_singleton]; omega) (by decide) z3 ?_)
              intro v4 w4 o4 f4
              have b4 : Below wd.heap.size wd w4 := f4 _ (unhide B3)
              have HR : Hid (Ow 9 w4 w.heap.size v4 (tx20 xv (L.take k ++ i :: L.drop k))) := by
                have e : tx20 xv (L.take k ++ i :: L.drop k) = tx20 xv (L.take k) ++ [.string (xv i)] ++ tx20 xv (L.drop k) := by simp [tx20]
                show Ow _ _ _ _ _
                rw [e]
                exact Ow.lower (by simpa using o4) (unhide HBW).size
              have HB4 := hide (bthen (unhide HBW) b4)
              clear o4 f4 b4 O3 B3 HC1 HC2
              go_wp2
              go_roundw
              case rel => exact ⟨i + 1, L.take k ++ i :: L.drop k, by go_num, by omega, unhide HR, (unhide HRES).1, (unhide HRES).2, unhide HB4⟩
              case measure => simp [intOf]; omega
          · have hd1 : decide ((0 : Int) < (k : Int)) = true := by simp; omega
            obtain ⟨j, hj⟩ : ∃ j : Nat, j = k - 1 := ⟨_, rfl⟩
            have hw : IntKind.i64.wrap ((k : Int) - 1) = (j : Int) := by rw [IntKind.wrap_i64]; omega
            have I2 : (j : Int) < (i : Int) := by omega
            have I3 : (0 : Int) ≤ (j : Int) := by omega
            have C1 : Hid (∀ W, Below wr.heap.size wr W → W.cell? ⟨g, j, none⟩ = some (.string (xv (L.getD j 0)))) := fun W hW => unhide HCE j (by omega) g co ⟨_, unhide HO⟩ W (bthen (unhide HB2) hW)
            have C2 : Hid (∀ W, Below wr.heap.size wr W → W.cell? ⟨bx, ox + i, none⟩ = some (.string (xv i))) := fun W hW => unhide HCX W (bthen (unhide HB) (bthen (unhide HB2) hW))
            have K1 := hide (unhide HK j (by omega))
            have hbd : Below wr.heap.size wr wr.drew := (Below.refl wr.heap.size wr).drew
            have hd2 : decide (0 < k) = true := by simp; omega
            by_cases hc : R.getD i 0 < R.getD (L.getD j 0) 0
            · have hcv : Pu.cmpI (R.getD (L.getD j 0) 0) (R.getD i 0) = 1 := by unfold Pu.cmpI; rw [if_neg (by omega), if_pos hc]
              rw [hcv] at K1
              have HG2 : Hid (∀ m, j ≤ m → m < i → R.getD i 0 < R.getD (L.getD m 0) 0) := fun m h1 h2 => by
                rcases Nat.lt_or_ge m k with h | h
                · rw [show m = j by omega]; exact hc
                · exact unhide HGT m h h2
              have HJ := hide hj
              clear HGT hc hcv hj
              generalize L.getD j 0 = p at *
              go_wp2
              go_region_held3 (fun w' => w'.cell? ⟨g, j, none⟩ = some (.string (xv p)) ∧ w'.cell? ⟨bx, ox + i, none⟩ = some (.string (xv i)) ∧ Below wr.heap.size wr w') (first | exact ⟨unhide C1 _ (by assumption), unhide C2 _ (by assumption), by assumption⟩ | go_keep) (first | (go_at_call 21; refine ((unhide K1) _).mono ?_; rintro e8 w8 ⟨rfl, b8⟩; have hb8 := bthen (by assumption : Below wr.heap.size wr _) b8))
              have HB3 := hide (bthen (unhide HB2) (by assumption : Below wr.heap.size wr w8))
              clear HB2 C1 C2 K1 hbd hb8 b8
              go_wp2
              go_roundw
              case rel => exact ⟨j, rfl, by omega, unhide HG2, unhide HB3⟩
              case measure => have := unhide HJ; simp [intOf]; omega
            · have hcv : ¬ Pu.cmpI (R.getD (L.getD j 0) 0) (R.getD i 0) > 0 := by unfold Pu.cmpI; split <;> (try split) <;> omega
              have HK0 : Hid (k = 0 ∨ R.getD (L.getD (k - 1) 0) 0 ≤ R.getD i 0) := .inr (by rw [← hj]; omega)
              have hdc : decide (0 < Pu.cmpI (R.getD (L.getD j 0) 0) (R.getD i 0)) = false := decide_eq_false hcv
              clear hc hcv hj
              generalize Pu.cmpI (R.getD (L.getD j 0) 0) (R.getD i 0) = cr at *
              generalize L.getD j 0 = p at *
              go_wp2
              go_region_held3 (fun w' => w'.cell? ⟨g, j, none⟩ = some (.string (xv p)) ∧ w'.cell? ⟨bx, ox + i, none⟩ = some (.string (xv i)) ∧ Below wr.heap.size wr w') (first | exact ⟨unhide C1 _ (by assumption), unhide C2 _ (by assumption), by assumption⟩ | go_keep) (first | (go_at_call 21; refine ((unhide K1) _).mono ?_; rintro e8 w8 ⟨rfl, b8⟩; have hb8 := bthen (by assumption : Below wr.heap.size wr _) b8))
              have HB3 := hide (bthen (unhide HB2) (by assumption : Below wr.heap.size wr w8))
              clear HB2 C1 C2 K1 hbd hb8 b8
              have HB2 := HB3
              clear HB3 hdc hd1 hd2 hw
              have HRES := hide (unhide HINS L i k (unhide HP) (unhide HS) hki (unhide HK0) (unhide HGT))
              have hzr := (unhide HB2).size
              have HBW := hide (bthen (unhide HB) (unhide HB2))
              have HOR := hide ((unhide HO).below (unhide HB2))
              clear HP HS HK HK0 HGT HINS KC HLT HFIN
              have hc1 := ((unhide HOR).sv.head (k := k) (by omega) ho1)
              rw [tx_take20] at hc1
              have hc2 := (unhide HOR).sv.cut (l := k) (h := i) (m := co) (by omega) (by omega) (by omega) (Nat.le_refl _)
              rw [List.take_of_length_le (by rw [List.length_drop, tx_len20]; omega), tx_drop20] at hc2
              obtain ⟨u2, hu2⟩ : ∃ u2, u2 = sliced (some ⟨g, 0, none⟩) k i co 1 := ⟨_, rfl⟩
              rw [← hu2] at hc2
              have HC1 := hide hc1
              have HC2 := hide hc2
              have hl1 : (L.take k).length ≤ 100000 := by rw [List.length_take]; omega
              have hl2 : (L.drop k).length ≤ 100000 := by rw [List.length_drop]; omega
              have q1 : (k : Int) ≤ (i : Int) := by omega
              have q2 : (k : Int) ≤ (co : Int) := by omega
              have q3 : (i : Int) ≤ (co : Int) := by omega
              have q4 : (0 : Int) ≤ (k : Int) := by omega
              clear hc1 hc2
              go_wp2_with (at_builtin; refine wp_app20 rfl (.tmp 32) (.tmp 35) 32 rfl w8.heap.size 9 i0 (.string ⟨#[]⟩) 16 Tryd.underlying32 hi hz0 hz1 hz2 rfl _ _ [] (tx20 xv (L.take k)) rfl (Ow.nil _ _ _) rfl (unhide HC1) (tx_one20 _ _) (by rw [tx_len20]; simp; omega) (by decide) (Nat.le_refl _) ?_)
              intro v2 w2 o2 f2
              have b2 : Below w8.heap.size w8 w2 := f2 _ (Below.refl _ _)
              have x2 := unhide HCX w2 (bthen (unhide HBW) b2)
              have O2 := hide o2
              have B2 := hide b2
              have z2 := b2.size
              clear o2 f2 b2
              go_wp2_with (at_builtin; refine wp_app20 rfl (.tmp 37) (.tmp 42) 32 rfl w8.heap.size 9 i0 (.string ⟨#[]⟩) 16 Tryd.underlying32 hi hz0 hz1 hz2 rfl _ _ (tx20 xv (L.take k)) [.string (xv i)] rfl ((unhide O2).below ((Below.refl _ _).alloc (Nat.le_refl _) _)) rfl (sv_new20 w2 9 [.string (xv i)] (by simp)) (str_one20 _) (by rw [tx_len20]; simp; omega) (by decide) (by simp; omega) ?_)
              intro v3 w3 o3 f3
              have b3 : Below w8.heap.size w8 w3 := f3 _ ((unhide B2).alloc z2 _)
              have O3 := hide o3
              have B3 := hide b3
              have z3 := b3.size
              clear o3 f3 b3 x2 O2 B2
              by_cases hm : co = k
              · have e2 : u2 = .slice (some ⟨g, 0, none⟩) (i - k) 0 := by rw [hu2]; unfold sliced; rw [if_pos hm, hm, Nat.sub_self]
                subst e2
                clear hu2
                go_wp2_with (at_builtin; refine wp_app20 rfl (.tmp 44) (.tmp 47) 32 rfl w8.heap.size 9 i0 (.string ⟨#[]⟩) 16 Tryd.underlying32 hi hz0 hz1 hz2 rfl _ _ (tx20 xv (L.take k) ++ [Value.string (xv i)]) (tx20 xv (L.drop k)) rfl (unhide O3) rfl ((unhide HC2).below (unhide B3)) (tx_one20 _ _) (by have := tx_len20 xv (L.take k); have := tx_len20 xv (L.drop k); simp only [List.length_append, List.length_singleton]; omega) (by decide) z3 ?_)
                intro v4 w4 o4 f4
                have b4 : Below w8.heap.size w8 w4 := f4 _ (unhide B3)
                have HR : Hid (Ow 9 w4 w.heap.size v4 (tx20 xv (L.take k ++ i :: L.drop k))) := by
                  have e : tx20 xv (L.take k ++ i :: L.drop k) = tx20 xv (L.take k) ++ [.string (xv i)] ++ tx20 xv (L.drop k) := by simp [tx20]
                  show Ow _ _ _ _ _
                  rw [e]
                  exact Ow.lower (by simpa using o4) (unhide HBW).size
                have HB4 := hide (bthen (unhide HBW) b4)
                clear o4 f4 b4 O3 B3 HC1 HC2
                go_wp2
                go_roundw
                case rel => exact ⟨i + 1, L.take k ++ i :: L.drop k, by go_num, by omega, unhide HR, (unhide HRES).1, (unhide HRES).2, unhide HB4⟩
                case measure => simp [intOf]; omega
              · have e2 : u2 = .slice (some ⟨g, k, none⟩) (i - k) (co - k) := by rw [hu2, cut_shape20 hm]; simp only [Option.map_some, addr_add, Nat.zero_add]
                subst e2
                clear hu2
                go_wp2_with (at_builtin; refine wp_app20 rfl (.tmp 44) (.tmp 47) 32 rfl w8.heap.size 9 i0 (.string ⟨#[]⟩) 16 Tryd.underlying32 hi hz0 hz1 hz2 rfl _ _ (tx20 xv (L.take k) ++ [Value.string (xv i)]) (tx20 xv (L.drop k)) rfl (unhide O3) rfl ((unhide HC2).below (unhide B3)) (tx_one20 _ _) (by have := tx_len20 xv (L.take k); have := tx_len20 xv (L.drop k); simp only [List.length_append, List.length_singleton]; omega) (by decide) z3 ?_)
                intro v4 w4 o4 f4
                have b4 : Below w8.heap.size w8 w4 := f4 _ (unhide B3)
                have HR : Hid (Ow 9 w4 w.heap.size v4 (tx20 xv (L.take k ++ i :: L.drop k))) := by
                  have e : tx20 xv (L.take k ++ i :: L.drop k) = tx20 xv (L.take k) ++ [.string (xv i)] ++ tx20 xv (L.drop k) := by simp [tx20]
                  show Ow _ _ _ _ _
                  rw [e]
                  exact Ow.lower (by simpa using o4) (unhide HBW).size
                have HB4 := hide (bthen (unhide HBW) b4)
                clear o4 f4 b4 O3 B3 HC1 HC2
                go_wp2
                go_roundw
                case rel => exact ⟨i + 1, L.take k ++ i :: L.drop k, by go_num, by omega, unhide HR, (unhide HRES).1, (unhide HRES).2, unhide HB4⟩
                case measure => simp [intOf]; omega
    · obtain rfl : i = n := by omega
      have I1 : ¬ ((i : Int) < i) := by omega
      have HF : Hid (TxtB20 w Z (.returned _) wr) := unhide HFIN L wr _ hp hs ho hb
      clear HX KC HFIN HINS ho hp hs hb
      go_wp2
      go_ret
      exact unhide HF
end Go.Proofs.YtcnmmghkjblemaaDoor
