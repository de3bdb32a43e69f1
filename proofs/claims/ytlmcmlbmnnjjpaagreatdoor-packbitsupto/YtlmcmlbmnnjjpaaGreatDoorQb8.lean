/- PackShort. -/
import Derived.Test.YtlmcmlbmnnjjpaaGreatDoorQa8
import Derived.Test.YtlmcmlbmnnjjpaaGreatDoorGm8
namespace Go.Proofs.YtlmcmlbmnnjjpaaGreatDoor
open Go.RowKit
open Wi

theorem uint_pos {n : Int} (h : 0 ≤ n) : 1 ≤ (Ref.uint n).length := by
  have := uint_ne h
  rcases Nat.eq_zero_or_pos (Ref.uint n).length with h0 | h0
  · exact absurd (List.eq_nil_of_length_eq_zero h0) this
  · exact h0
/-- What Pack takes: the bytes. -/
theorem pack_ok {l : List Rec} (h : (Pk.pack l).2.2 = 0) : Pk.pack l = (Pk.body l ++ Pk.sum4 (Pk.body l), 0, 0) ∧ (Cn.check6 l).2 = 0 ∧ 10 ≤ (Pk.body l ++ Pk.sum4 (Pk.body l)).length ∧ (Pk.body l ++ Pk.sum4 (Pk.body l)).length ≤ 262144 := by
  unfold Pk.pack at h ⊢
  by_cases h1 : (Cn.check6 l).2 = 0
  · rw [if_neg (by simpa using h1)] at h ⊢
    by_cases h2 : 262144 < (Pk.body l).length + 4
    · rw [if_pos h2] at h; simp at h
    rw [if_neg h2]
    have h3 : 6 ≤ (Pk.body l).length := by
      have := uint_pos (n := (l.length : Int)) (by omega)
      unfold Pk.body
      rw [List.length_append, List.length_append, show Pk.head.length = 5 from rfl]
      omega
    refine ⟨rfl, h1, ?_, ?_⟩
    · rw [List.length_append, sum4_len]; omega
    · rw [List.length_append, sum4_len]; omega
  · rw [if_pos (by simpa using h1)] at h
    exact absurd h h1
theorem unpack_no {zs : List Int} (h : zs.length < 10 ∨ zs.drop (zs.length - 4) ≠ Pk.sum4 (zs.take (zs.length - 4))) : ∃ a e, e ≠ 0 ∧ Pk.unpack zs = ([], a, e) := by
  have hf : (Pk.framed zs).2 ≠ 0 := by
    unfold Pk.framed
    by_cases h1 : 262144 < zs.length
    · rw [if_pos h1]; decide
    rw [if_neg h1]
    by_cases h2 : zs.length < 10
    · rw [if_pos h2]; show (10 : Int) ≠ 0; decide
    rw [if_neg h2, if_pos (h.resolve_left h2)]
    show (13 : Int) ≠ 0; decide
  exact ⟨(Pk.framed zs).1, (Pk.framed zs).2, hf, by unfold Pk.unpack; rw [if_pos hf]⟩
/-- Are the first k bytes from place p on those of the sum? -/
def sameB (zs : List Int) (s p k : Nat) : Bool := decide (∀ j, j < k → zs.getD (p + j) 0 = (Pk.le4 s).getD j 0)
theorem sameB_zero (zs : List Int) (s p : Nat) : sameB zs s p 0 = true := by
  unfold sameB
  rw [decide_eq_true_eq]
  intro j hj; omega
theorem sameB_step (zs : List Int) (s p k : Nat) : sameB zs s p (k + 1) = (sameB zs s p k && decide (zs.getD (p + k) 0 = (Pk.le4 s).getD k 0)) := by
  unfold sameB
  rw [Bool.eq_iff_iff]
  simp only [Bool.and_eq_true, decide_eq_true_eq]
  constructor
  · intro h; exact ⟨fun j hj => h j (by omega), h k (by omega)⟩
  · rintro ⟨h1, h2⟩ j hj
    rcases Nat.lt_or_ge j k with h | h
    · exact h1 j h
    · obtain rfl : j = k := by omega
      exact h2
theorem sameB_not {zs : List Int} {n : Nat} (hn : n ≤ zs.length) (h4 : 4 ≤ n) (h : sameB zs (Crc.sum (zs.take (n - 4))) (n - 4) 4 = false) : (zs.take n).length < 10 ∨ (zs.take n).drop ((zs.take n).length - 4) ≠ Pk.sum4 ((zs.take n).take ((zs.take n).length - 4)) := by
  have hl : (zs.take n).length = n := by simp; omega
  right
  rw [hl]
  intro e
  unfold sameB at h
  rw [decide_eq_false_iff_not] at h
  refine h fun j hj => ?_
  have e2 : (zs.take n).take (n - 4) = zs.take (n - 4) := by rw [List.take_take]; congr 1; omega
  rw [e2] at e
  have e3 : ((zs.take n).drop (n - 4)).getD j 0 = (Pk.sum4 (zs.take (n - 4))).getD j 0 := by rw [e]
  have e4 : ((zs.take n).drop (n - 4)).getD j 0 = zs.getD (n - 4 + j) 0 := by
    simp only [List.getD, List.getElem?_drop]
    rw [List.getElem?_take_of_lt (by omega)]
  rw [e4] at e3
  exact e3
theorem mod_len (c : Int) (l : Nat) (hl : 1 ≤ l) : ∃ k : Nat, c % (l : Int) = k ∧ k < l := by
  have h1 := Int.emod_nonneg c (show (l : Int) ≠ 0 by omega)
  have h2 := Int.emod_lt_of_pos c (show (0 : Int) < (l : Int) by omega)
  obtain ⟨k, hk⟩ := Int.eq_ofNat_of_zero_le h1
  exact ⟨k, hk, by omega⟩
theorem sum_byte (s k : Nat) (hs : s < 4294967296) (hk : k < 4) : bits .and .u32 ((s : Int) / 2 ^ (8 * k)) 255 = (Pk.le4 s).getD k 0 := by
  have e : (s : Int) / 2 ^ (8 * k) = ((s / 2 ^ (8 * k) : Nat) : Int) := by simp
  have hd := Nat.div_le_self s (2 ^ (8 * k))
  rw [e, show (255 : Int) = ((255 : Nat) : Int) from rfl, u32_and_nat _ 255 (by omega) (by decide)]
  have h2 : ∀ x : Nat, x &&& 255 = x % 256 := fun x => Nat.and_two_pow_sub_one_eq_mod x 8
  rw [h2]
  obtain rfl | rfl | rfl | rfl : k = 0 ∨ k = 1 ∨ k = 2 ∨ k = 3 := by omega
  · simp [Pk.le4]
  · simp [Pk.le4]
  · simp [Pk.le4]
  · simp [Pk.le4]
theorem le4_at (s k : Nat) : 0 ≤ (Pk.le4 s).getD k 0 ∧ (Pk.le4 s).getD k 0 ≤ 255 := by
  exact (le4_byt s).at k
set_option maxRecDepth 8000 in
set_option maxHeartbeats 8000000 in
theorem short_any (v : Value) (rs : List Rec) (cut : Int) (w : World) (hgl : Glob w) (hv : Rcs w v rs) : Calls Tryz.prog 7 #[v, .int .i64 cut] w (Tells8 w true) := by
  have HGL : Hid (∀ W, Below w.heap.size w W → Glob W) := fun W h => hgl.on h
  have K1 := hide (few8_any v rs 60 w hv (by omega))
  have HFIT : Hid (∀ r ∈ rs.take 60, RecFit r) := fun r hr => hv.2.1 r (List.mem_of_mem_take hr)
  have KT : Hid (∀ W, Below w.heap.size w W → Calls Tryz.prog 11 #[] W (Tells8 W true)) := fun W h => told8_any W (hgl.on h)
  obtain ⟨ao0, cap0, rfl, _, _⟩ := hv.shape
  have hl60 : (rs.take 60).length ≤ 60 := List.length_take_le _ _
  clear hgl hv
  have KP : Hid (∀ W v1 ps, Below w.heap.size w W → Rown W w.heap.size v1 ps → ps.map (·.1) = rs.take 60 → Calls Tryz.prog 9 #[v1] W (PackB W (Pk.pack (rs.take 60)))) := fun W v1 ps hW hR he => by
    refine pack_any v1 _ W ((unhide HGL) W hW) ?_
    rw [← he]
    have hpl : ps.length = (rs.take 60).length := by rw [← he, List.length_map]
    refine hR.rcs (by omega) (fun p hp => (unhide HFIT) _ ?_)
    rw [← he]
    exact List.mem_map.2 ⟨p, hp, rfl⟩
  have KU : Hid (∀ W v zs, Below w.heap.size w W → Sl W v zs → Calls Tryz.prog 15 #[v] W (UnpB W (Pk.unpack zs))) := fun W v zs hW hs => unpack_any v zs W ((unhide HGL) W hW) hs
  have hpk := fun h => pack_ok (l := rs.take 60) h
  clear HGL HFIT
  obtain ⟨c, hc, hc0, hc1⟩ := and_forty cut
  generalize Pk.pack (rs.take 60) = q at *
  go_enter Tryz.func7, Tryz.ntmps7
  go_wp2_with fail
  refine (unhide K1).mono ?_
  rintro e1 w1 ⟨v1, ps, rfl, hps, hR, hb1⟩
  have K2 := hide ((unhide KP) w1 v1 ps hb1 hR hps)
  obtain ⟨lao, lcap, hvl, _⟩ := hR.shape
  subst hvl
  clear K1 KP hR hps
  go_wp2_with fail
  refine (unhide K2).mono ?_
  rintro e2 w2 ⟨v2, rfl, hown, hb2⟩
  have hB2 := bthen hb1 hb2
  clear K2
  by_cases he : q.2.2 = 0
  · obtain ⟨hq, hck, hl10, hl2⟩ := hpk he
    have hq1 : q.1 = Pk.body (rs.take 60) ++ Pk.sum4 (Pk.body (rs.take 60)) := by rw [hq]
    have hq2 : q.2.1 = 0 := by rw [hq]
    rw [← hq1] at hl10 hl2
    have hne : (q.2.2 != 0) = false := by simp [he]
    obtain ⟨bs, qa, qe⟩ := q
    simp only at hl10 hl2 hne hown he ⊢
    subst he
    have hsl := hown.sl
    obtain ⟨b, off, cap, rfl, hc2, hc3, hcells⟩ := hsl.place (by omega)
    obtain ⟨n, hn, hnl⟩ := mod_len c bs.length (by omega)
    have hzl : ((bs.length : Int) == 0) = false := by rw [beq_eq_false_iff_ne]; omega
    have hz0 : ¬ ((bs.length : Int) = 0) := by omega
    have htm : c.tmod (bs.length : Int) = (n : Int) := by rw [Int.tmod_eq_emod_of_nonneg hc0]; exact hn
    have hw0 : IntKind.i64.wrap (n : Int) = (n : Int) := by rw [IntKind.wrap_i64]; omega
    clear hpk hq hq1 hq2 hck
    have HD : Hid (∀ W, Below w2.heap.size w2 W → Sl W (.slice (some ⟨b, off, none⟩) n cap) (bs.take n)) := fun W h => (hsl.head (by omega) hc2).below h
    have hnc : (n : Int) ≤ (cap : Int) := by omega
    have hnc2 : n ≤ cap := by omega
    have hn0 : (0 : Int) ≤ (n : Int) := by omega
    have hnl2 : (n : Int) < (bs.length : Int) := by omega
    have hbl : (bs.length : Int) ≤ 262144 := by omega
    have HFIN : Hid (∀ W z, Below w2.heap.size w2 W → ((bs.take n).length < 10 ∨ (bs.take n).drop ((bs.take n).length - 4) ≠ Pk.sum4 ((bs.take n).take ((bs.take n).length - 4))) → z = Value.slice (some ⟨b, off, none⟩) n cap → Calls Tryz.prog 15 #[z] W (fun e w' => ∃ ao cp a f, f ≠ 0 ∧ e = .returned (.tuple #[.slice ao 0 cp, .int .i64 a, .int .i64 f]) ∧ Below W.heap.size W w')) := fun W z hW hno hz => by
      subst hz
      obtain ⟨a, f, hf, hu⟩ := unpack_no hno
      have K := (unhide KU) W _ _ (bthen hB2 hW) ((unhide HD) W hW)
      rw [hu] at K
      refine K.mono ?_
      rintro e w' ⟨vl, ps, rfl, hR, hps, hb⟩
      have hps' : ps = [] := by simpa using hps
      subst hps'
      obtain ⟨lo, lc, rfl, _⟩ := hR.shape
      exact ⟨lo, lc, a, f, hf, rfl, hb⟩
    by_cases h4 : 4 ≤ n
    · have hd4 : decide ((4 : Int) ≤ (n : Int)) = true := by rw [decide_eq_true_eq]; omega
      have h41 : (4 : Int) ≤ (n : Int) := by omega
      obtain ⟨p, rfl⟩ : ∃ p, n = p + 4 := ⟨n - 4, by omega⟩
      have hS : Sl w2 (.slice (some ⟨b, off, none⟩) p cap) (bs.take p) := hsl.head (by omega) hc2
      have KS := hide (sum_one w2 _ _ hS)
      have hslt := Crc.sum_lt (bs.take p) hS.1
      have HNOT : Hid (sameB bs (Crc.sum (bs.take p)) p 4 = false → (bs.take (p + 4)).length < 10 ∨ (bs.take (p + 4)).drop ((bs.take (p + 4)).length - 4) ≠ Pk.sum4 ((bs.take (p + 4)).take ((bs.take (p + 4)).length - 4))) := fun h => sameB_not (n := p + 4) (by omega) (by omega) h
      have hpc : p ≤ cap := by omega
      have hpc2 : (p : Int) ≤ (cap : Int) := by omega
      have hp0 : (0 : Int) ≤ (p : Int) := by omega
      have hpl : (p : Int) + 4 < (bs.length : Int) := by omega
      generalize Crc.sum (bs.take p) = s at *
      have HC : Hid (∀ W k, Below w2.heap.size w2 W → k < 4 → W.cell? ⟨b, off + (p + k), none⟩ = some (.int .u8 (bs.getD (p + k) 0))) := fun W k hW hk => by rw [hW.cell (lt_of_cell? (hcells (p + k) (by omega)))]; exact hcells (p + k) (by omega)
      have hbW : Below w2.heap.size w2 (w2.alloc (.cells #[.slice (some ⟨b, off, none⟩) p cap] 24)) := (Below.refl _ _).alloc (Nat.le_refl _) _
      have HBY : Hid (∀ k, 0 ≤ bs.getD (p + k) 0 ∧ bs.getD (p + k) 0 ≤ 255) := fun k => by
        have := hown.1.at (p + k)
        rw [← List.getD_eq_getElem?_getD] at this
        exact this
      have hSB := fun k => sameB_step bs s p k
      have HSB := hide hSB
      have HSZ := hide (sameB_zero bs s p)
      clear hcells hown hsl hS hSB
      go_wp2_with fail
      refine (unhide KS).mono ?_
      rintro e3 w3 ⟨rfl, hw3⟩
      have hB3 : Below w2.heap.size w2 w3 := by rw [hw3]; exact hbW
      have HC3 : Hid (∀ k, k < 4 → w3.cell? ⟨b, off + (p + k), none⟩ = some (.int .u8 (bs.getD (p + k) 0))) := fun k hk => (unhide HC) w3 k hB3 hk
      clear KS hw3 hbW HC
      go_wp2
      go_loop [10, 11] (fun sv iv => ∃ k : Nat, k ≤ 4 ∧ iv = .int .i64 k ∧ sv = .bool (sameB bs s p k)) (fun _ iv => 4 - (intOf iv).toNat)
      case atStart => exact ⟨0, by omega, rfl, by rw [unhide HSZ]⟩
      case round =>
        obtain ⟨k, hk, rfl, rfl⟩ := hrel
        by_cases hk4 : k < 4
        · have hst := (unhide HSB) k
          have x0 := (unhide HC3) k hk4
          have hby := (unhide HBY) k
          have HST := hide hst
          generalize bs.getD (p + k) 0 = z at *
          clear hst
          by_cases hb : sameB bs s p k = true
          · rw [hb] at HST ⊢
            have hk8 : (k : Int) ≤ 3 := by omega
            have hk0 : (0 : Int) ≤ (k : Int) := by omega
            have hpk : (p : Int) + (k : Int) < (bs.length : Int) := by omega
            have hsb := sum_byte s k hslt hk4
            have hle := le4_at s k
            generalize (Pk.le4 s).getD k 0 = y at *
            go_wp2
            go_round
            case rel => exact ⟨k + 1, by omega, by go_num, by rw [unhide HST, Bool.true_and]; exact congrArg Value.bool (by rw [Bool.eq_iff_iff]; simp)⟩
            case measure => simp [intOf]; omega
          · have hb2 : sameB bs s p k = false := by simpa using hb
            rw [hb2] at HST ⊢
            rw [Bool.false_and] at HST
            clear hb hb2
            go_wp2
            go_round
            case rel => exact ⟨k + 1, by omega, by go_num, by rw [unhide HST]⟩
            case measure => simp [intOf]; omega
        · obtain rfl : k = 4 := by omega
          have hBw3 := bthen hB2 hB3
          by_cases hb : sameB bs s p 4 = true
          · rw [hb]
            have KT2 := hide ((unhide KT) w3 hBw3)
            clear HFIN HD KU KT HC3 HBY HSB HSZ HNOT hb
            go_wp2_with fail
            refine (unhide KT2).mono ?_
            rintro e4 w4 ⟨rfl, hb4⟩
            have HF : Tells8 w true (.returned (.bool true)) w4 := ⟨rfl, bthen hBw3 hb4⟩
            clear KT2 hb4
            go_wp2
            go_ret
            exact HF
          · have hb2 : sameB bs s p 4 = false := by simpa using hb
            rw [hb2]
            have KU2 := hide ((unhide HFIN) w3 _ hB3 ((unhide HNOT) hb2) rfl)
            clear HFIN HD KU HC3 HBY HSB HSZ HNOT hb hb2
            go_wp2_with fail
            refine (unhide KU2).mono ?_
            rintro e3 w5 ⟨uo, uc, a, f, hf, rfl, hb3⟩
            have hB5 := bthen hBw3 hb3
            have KT2 := hide ((unhide KT) w5 hB5)
            have hfq : (f != 0) = true := by simpa using hf
            clear KU2 KT hf
            go_wp2_with fail
            refine (unhide KT2).mono ?_
            rintro e4 w4 ⟨rfl, hb4⟩
            have HF : Tells8 w true (.returned (.bool true)) w4 := ⟨rfl, bthen hB5 hb4⟩
            clear KT2 hb4 hB5 hb3
            go_wp2
            go_ret
            exact HF
    · have hd4 : decide ((4 : Int) ≤ (n : Int)) = false := by rw [decide_eq_false_iff_not]; omega
      have KU2 := hide ((unhide HFIN) w2 _ (Below.refl _ _) (.inl (by rw [List.length_take]; omega)) rfl)
      clear HFIN HD hcells hown hsl KU
      go_wp2_with fail
      refine (unhide KU2).mono ?_
      rintro e3 w3 ⟨uo, uc, a, f, hf, rfl, hb3⟩
      have hB3 := bthen hB2 hb3
      have KT2 := hide ((unhide KT) w3 hB3)
      have hfq : (f != 0) = true := by simpa using hf
      clear KU2 KT hf
      go_wp2_with fail
      refine (unhide KT2).mono ?_
      rintro e4 w4 ⟨rfl, hb4⟩
      have HF : Tells8 w true (.returned (.bool true)) w4 := ⟨rfl, bthen hB3 hb4⟩
      clear KT2 hb4 hB3 hb3
      go_wp2
      go_ret
      exact HF
  · have hne : (q.2.2 != 0) = true := by simpa using he
    have KT2 := hide ((unhide KT) w2 hB2)
    clear hpk KU he KT hown
    go_wp2_with fail
    refine (unhide KT2).mono ?_
    rintro e4 w4 ⟨rfl, hb4⟩
    have HF : Tells8 w true (.returned (.bool true)) w4 := ⟨rfl, bthen hB2 hb4⟩
    clear KT2 hb4
    go_wp2
    go_ret
    exact HF
end Go.Proofs.YtlmcmlbmnnjjpaaGreatDoor
