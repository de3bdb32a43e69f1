/- NameBack: what is packed is unpacked; what is unpacked is packed just so. -/
import Derived.Test.YtcnmmghkjblemaaDoorNu20
import Derived.Deep.RegionHeld3
namespace Go.Proofs.YtcnmmghkjblemaaDoor
open Go.RowKit

namespace Na
theorem pkE_len {s : List Int} (h : pkE s = 0) : s.length ≤ 253 := by
  unfold pkE at h
  split at h
  · split at h
    · rename_i h2; exact h2
    · simp at h
  · simp at h
theorem una_enc {s : List Int} (h : pkE s = 0) (ahead behind : List Int) : una (ahead ++ enc (lab s) ++ behind) (ahead.length : Int) = (0, s, ((ahead.length + (enc (lab s)).length : Nat) : Int)) := by
  unfold una
  have e := unp_enc h behind
  rw [if_neg (by simp; omega), show ((ahead.length : Int)).toNat = ahead.length by omega, List.append_assoc, List.drop_left, e]
  simp
theorem una_back {b : List Int} (hb : Byt b) {a : Int} (h : (una b a).1 = 0) : 0 ≤ a ∧ a < (una b a).2.2 ∧ (una b a).2.2 ≤ b.length ∧ pkE (una b a).2.1 = 0 ∧ enc (lab (una b a).2.1) = (b.drop a.toNat).take ((una b a).2.2 - a).toNat := by
  unfold una at h ⊢
  by_cases h0 : a < 0 ∨ (b.length : Int) < a
  · rw [if_pos h0] at h; simp at h
  · rw [if_neg h0] at h ⊢
    by_cases h1 : (unp (b.drop a.toNat)).1 = 0
    · rw [if_pos h1]
      obtain ⟨g1, g2, g3, g4⟩ := unp_back (b := b.drop a.toNat) (fun x hx => (hb x (List.mem_of_mem_drop hx)).1) (Prod.ext h1 rfl : unp (b.drop a.toNat) = (0, (unp (b.drop a.toNat)).2.1, (unp (b.drop a.toNat)).2.2))
      rw [List.length_drop] at g3
      simp only
      refine ⟨by omega, by omega, by omega, g1, ?_⟩
      rw [g2]
      congr 1
      omega
    · rw [if_neg h1] at h; exact absurd h h1
end Na
theorem cut_shape20 {ao : Option Addr} {a p cap : Nat} (h : ¬ cap = a) : sliced ao a p cap 1 = .slice (ao.map fun x => x.add a) (p - a) (cap - a) := by
  unfold sliced
  rw [if_neg h, Nat.mul_one]
set_option maxRecDepth 20000 in
set_option maxHeartbeats 8000000 in
theorem back_law20 (s : ByteArray) (v v3 v4 : Value) (zs z3 z4 : List Int) (at_ : Int) (w : World) (hg : Gl20 w) (hs : s.size ≤ 10000000) (h1 : Sk .u8 w v zs) (h3 : Sk .u8 w v3 z3) (h4 : Sk .u8 w v4 z4) (l1 : zs.length ≤ 10000000) (l3 : z3.length ≤ 10000000) (l4 : z4.length ≤ 10000000) (ha : -9223372036854775808 ≤ at_ ∧ at_ ≤ 9223372036854775807) :
    Calls Tryd.prog 6 #[.string s, v, .int .i64 at_, v3, v4] w (Tells w true) := by
  obtain ⟨i0, hi, hz0, hz1, hz2⟩ := parts20 inf8_20
  have K1 := hide (pack20 spltC20 s w (by omega) hg)
  have HG := hide hg
  have HP : Hid (Na.pkE (nums s) = 0 → 1 ≤ (Na.enc (Na.lab (nums s))).length ∧ (Na.enc (Na.lab (nums s))).length ≤ 255 ∧ Na.una (z3 ++ Na.enc (Na.lab (nums s)) ++ z4) (z3.length : Int) = (0, nums s, ((z3.length + (Na.enc (Na.lab (nums s))).length : Nat) : Int))) := fun h => ⟨(Na.enc_len h).1, (Na.enc_len h).2, Na.una_enc h z3 z4⟩
  have HS := hide h1
  have H3 := hide h3
  have H4 := hide h4
  obtain ⟨a3, c3, rfl, _, _⟩ := h3.shape
  obtain ⟨ao, cap, rfl, hc1, hc2⟩ := h1.shape
  clear hg h1 h3 h4
  go_enter Tryd.func6, Tryd.ntmps6
  go_wp2_with fail
  refine (unhide K1).mono ?_
  rintro e1 w1 ⟨x, rfl, ox, b1⟩
  have HB := hide b1
  clear K1
  by_cases hp : Na.pkE (nums s) = 0
  · rw [if_pos hp] at ox
    obtain ⟨p1, p2, p3⟩ := unhide HP hp
    rw [hp]
    generalize Na.enc (Na.lab (nums s)) = E at *
    obtain ⟨gx, cx, rfl, hcx, _⟩ := ox.sk.shape
    have OX := hide ox
    have HU := hide p3
    clear HP hp b1 ox p3
    have hE3 : (z3 ++ E).length ≤ 10000255 := by rw [List.length_append]; omega
    go_wp2_with (at_builtin; refine wp_app20 rfl (.tmp 29) (.tmp 30) 22 rfl w1.heap.size 5 i0 (.int .u8 0) 1 Tryd.underlying22 hi hz0 hz1 hz2 rfl _ _ [] (z3.map (Value.int .u8)) rfl (Ow.nil _ _ _) rfl ((unhide H3).below (unhide HB)).2 (ints_one _ _) (by simp; omega) (by decide) (Nat.le_refl _) ?_)
    intro q1 w2 o2 f2
    have b2 : Below w1.heap.size w1 w2 := f2 w1 (Below.refl _ _)
    have O2 := hide o2
    have B2 := hide b2
    have z2 := b2.size
    clear o2 f2 b2
    go_wp2_with (at_builtin; refine wp_app20 rfl (.tmp 32) (.tmp 33) 22 rfl w1.heap.size 5 i0 (.int .u8 0) 1 Tryd.underlying22 hi hz0 hz1 hz2 rfl _ _ (z3.map (Value.int .u8)) (E.map (Value.int .u8)) rfl (unhide O2) rfl ((unhide OX).sk.below (unhide B2)).2 (ints_one _ _) (by simp; omega) (by decide) z2 ?_)
    intro q3 w3 o3 f3
    have b3 : Below w1.heap.size w1 w3 := f3 w1 (unhide B2)
    have O3 := hide o3
    have B3 := hide b3
    have z3' := b3.size
    clear o3 f3 b3 O2 B2
    go_wp2_with (at_builtin; refine wp_app20 rfl (.tmp 35) (.tmp 36) 22 rfl w1.heap.size 5 i0 (.int .u8 0) 1 Tryd.underlying22 hi hz0 hz1 hz2 rfl _ _ (z3.map (Value.int .u8) ++ E.map (Value.int .u8)) (z4.map (Value.int .u8)) rfl (unhide O3) rfl ((unhide H4).below (bthen (unhide HB) (unhide B3))).2 (ints_one _ _) (by simp; omega) (by decide) z3' ?_)
    intro q4 w4 o4 f4
    have b4 : Below w1.heap.size w1 w4 := f4 w1 (unhide B3)
    have hall : Sk .u8 w4 q4 (z3 ++ E ++ z4) := by
      refine ⟨(((unhide H3).1.app (unhide OX).1).app (unhide H4).1), ?_⟩
      have := o4.sv
      simpa using this
    have K5 := hide (unpack20 hall (z3.length : Int) (by rw [List.length_append, List.length_append]; omega))
    rw [unhide HU] at K5
    have HB4 := hide (bthen (unhide HB) b4)
    clear o4 f4 b4 O3 B3 hall OX HU HB
    go_wp2_with fail
    refine (unhide K5).mono ?_
    rintro e5 w5 ⟨t, rfl, ht, b5⟩
    obtain rfl : t = s := nums_inj ht
    have HB5 := hide (bthen (unhide HB4) b5)
    clear K5 ht b5 HB4
    have m1 : ¬ ((E.length : Int) > 255) := by omega
    have m2 : ¬ ((E.length : Int) < 1) := by omega
    have m3 : (((z3.length + E.length : Nat) : Int)) = (z3.length : Int) + (E.length : Int) := by omega
    rw [m3]
    have KU := hide (unpack20 ((unhide HS).below (unhide HB5)) at_ (by omega))
    go_wp2_with fail
    refine (unhide KU).mono ?_
    rintro e6 w6 ⟨t6, rfl, ht6, b6⟩
    have HB6 := hide (bthen (unhide HB5) b6)
    have hback := Na.una_back (a := at_) (fun x hx => fit_u8 ((unhide HS).1 x hx) : Byt zs)
    clear KU b6
    generalize Na.una zs at_ = q at *
    obtain ⟨er, tl, p⟩ := q
    simp only at hback ht6
    by_cases he : er = 0
    · subst he
      obtain ⟨g1, g2, g3, g4, g5⟩ := hback rfl
      clear hback
      obtain ⟨k, rfl⟩ : ∃ k : Nat, at_ = k := ⟨at_.toNat, by omega⟩
      obtain ⟨m, rfl⟩ : ∃ m : Nat, p = m := ⟨p.toNat, by omega⟩
      rw [show ((m : Int) - (k : Int)).toNat = m - k by omega, show ((k : Int)).toNat = k by omega] at g5
      have hl6 : t6.size ≤ 253 := by rw [← nums_length, ht6]; exact Na.pkE_len g4
      have KP := hide (pack20 spltC20 t6 w6 (by omega) ((unhide HG).on (unhide HB6)))
      have HT6 := hide ht6
      have HG4 := hide g4
      have HG5 := hide g5
      obtain ⟨bb, off, cap', hv, _, _, _⟩ := (unhide HS).place (by omega)
      simp only [Value.slice.injEq] at hv
      obtain ⟨rfl, -, rfl⟩ := hv
      clear ht6 g4 g5
      go_wp2_with fail
      refine (unhide KP).mono ?_
      rintro e7 w7 ⟨y, rfl, oy, b7⟩
      rw [unhide HT6, unhide HG4, if_pos rfl, unhide HG5] at oy
      rw [unhide HT6, unhide HG4]
      have HB7 := hide (bthen (unhide HB6) b7)
      obtain ⟨sx, hsx⟩ : ∃ sx, strOfNums ((zs.drop k).take (m - k)) = sx := ⟨_, rfl⟩
      have CY : Hid (∀ W, Below w7.heap.size w7 W → (convert 22 9 y).run Tryd.prog W = .ok (.string sx) W) := fun W hW => by rw [← hsx]; exact (oy.sk.below hW).conv20
      have CC : Hid (∀ W, Below w7.heap.size w7 W → (convert 22 9 (.slice (some ⟨bb, off + k, none⟩) (m - k) (cap - k))).run Tryd.prog W = .ok (.string sx) W) := fun W hW => by
        have := (((unhide HS).below (bthen (unhide HB7) hW)).cut (l := k) (h := m) (m := cap) (by omega) (by omega) (by omega) (Nat.le_refl _)).conv20
        rw [cut_shape20 (by omega), hsx] at this
        simpa [addr_add] using this
      have KT : Hid (∀ W, Below w7.heap.size w7 W → Calls Tryd.prog 15 #[] W (Tells W true)) := fun W hW => told20 W ((unhide HG).on (bthen (unhide HB7) hW))
      have k1 : (k : Int) < (m : Int) := by omega
      have k2 : (m : Int) ≤ (zs.length : Int) := by omega
      have k3 : (k : Int) ≤ (m : Int) := by omega
      have k4 : (m : Int) ≤ (cap : Int) := by omega
      have k5 : ¬ cap = k := by omega
      have k6 : (0 : Int) ≤ (k : Int) := by omega
      have k7 : (m : Int).toNat - (k : Int).toNat = m - k := by omega
      clear KP oy b7 HT6 HG4 HG5 hsx HB6 HS H3 H4 HG
      generalize zs.length = zl at *
      go_wp2
      have hbd : Below w7.heap.size w7 w7.drew := (Below.refl w7.heap.size w7).drew
      go_region_held3 (fun w' => (convert 22 9 y).run Tryd.prog w' = .ok (.string sx) w' ∧ (convert 22 9 (.slice (some ⟨bb, off + k, none⟩) (m - k) (cap - k))).run Tryd.prog w' = .ok (.string sx) w' ∧ Below w7.heap.size w7 w') (first | exact ⟨unhide CY _ (by assumption), unhide CC _ (by assumption), by assumption⟩ | (have hbx : Below w7.heap.size w7 _ := (Below.refl w7.heap.size w7).drew; exact ⟨unhide CY _ hbx, unhide CC _ hbx, hbx⟩) | go_keep) (first | (go_at_call 15; refine ((unhide KT) _ (by assumption)).mono ?_; rintro e8 w8 ⟨rfl, b8⟩; have hb8 := bthen (by assumption : Below w7.heap.size w7 _) b8))
      go_wp2
      go_ret
      exact ⟨by simp, by first | exact bthen (unhide HB7) (by assumption) | skip⟩
    · have hz9 : (er != 0) = true := by simpa using he
      have KT := hide (told20 w6 ((unhide HG).on (unhide HB6)))
      clear hback he
      go_wp2_with fail
      refine (unhide KT).mono ?_
      rintro e7 w7 ⟨rfl, b7⟩
      have HF := hide (bthen (unhide HB6) b7)
      clear KT b7 HB6
      go_wp2
      go_ret
      exact ⟨rfl, unhide HF⟩
  · rw [if_neg hp] at ox
    have hz1' : (Na.pkE (nums s) == 0) = false := by rw [beq_eq_false_iff_ne]; exact hp
    generalize Na.pkE (nums s) = pe at *
    have KU := hide (unpack20 ((unhide HS).below (unhide HB)) at_ (by omega))
    clear HP hp b1 ox
    go_wp2_with fail
    refine (unhide KU).mono ?_
    rintro e6 w6 ⟨t6, rfl, ht6, b6⟩
    have HB6 := hide (bthen (unhide HB) b6)
    have hback := Na.una_back (a := at_) (fun x hx => fit_u8 ((unhide HS).1 x hx) : Byt zs)
    clear KU b6
    generalize Na.una zs at_ = q at *
    obtain ⟨er, tl, p⟩ := q
    simp only at hback ht6
    by_cases he : er = 0
    · subst he
      obtain ⟨g1, g2, g3, g4, g5⟩ := hback rfl
      clear hback
      obtain ⟨k, rfl⟩ : ∃ k : Nat, at_ = k := ⟨at_.toNat, by omega⟩
      obtain ⟨m, rfl⟩ : ∃ m : Nat, p = m := ⟨p.toNat, by omega⟩
      rw [show ((m : Int) - (k : Int)).toNat = m - k by omega, show ((k : Int)).toNat = k by omega] at g5
      have hl6 : t6.size ≤ 253 := by rw [← nums_length, ht6]; exact Na.pkE_len g4
      have KP := hide (pack20 spltC20 t6 w6 (by omega) ((unhide HG).on (unhide HB6)))
      have HT6 := hide ht6
      have HG4 := hide g4
      have HG5 := hide g5
      obtain ⟨bb, off, cap', hv, _, _, _⟩ := (unhide HS).place (by omega)
      simp only [Value.slice.injEq] at hv
      obtain ⟨rfl, -, rfl⟩ := hv
      clear ht6 g4 g5
      go_wp2_with fail
      refine (unhide KP).mono ?_
      rintro e7 w7 ⟨y, rfl, oy, b7⟩
      rw [unhide HT6, unhide HG4, if_pos rfl, unhide HG5] at oy
      rw [unhide HT6, unhide HG4]
      have HB7 := hide (bthen (unhide HB6) b7)
      obtain ⟨sx, hsx⟩ : ∃ sx, strOfNums ((zs.drop k).take (m - k)) = sx := ⟨_, rfl⟩
      have CY : Hid (∀ W, Below w7.heap.size w7 W → (convert 22 9 y).run Tryd.prog W = .ok (.string sx) W) := fun W hW => by rw [← hsx]; exact (oy.sk.below hW).conv20
      have CC : Hid (∀ W, Below w7.heap.size w7 W → (convert 22 9 (.slice (some ⟨bb, off + k, none⟩) (m - k) (cap - k))).run Tryd.prog W = .ok (.string sx) W) := fun W hW => by
        have := (((unhide HS).below (bthen (unhide HB7) hW)).cut (l := k) (h := m) (m := cap) (by omega) (by omega) (by omega) (Nat.le_refl _)).conv20
        rw [cut_shape20 (by omega), hsx] at this
        simpa [addr_add] using this
      have KT : Hid (∀ W, Below w7.heap.size w7 W → Calls Tryd.prog 15 #[] W (Tells W true)) := fun W hW => told20 W ((unhide HG).on (bthen (unhide HB7) hW))
      have k1 : (k : Int) < (m : Int) := by omega
      have k2 : (m : Int) ≤ (zs.length : Int) := by omega
      have k3 : (k : Int) ≤ (m : Int) := by omega
      have k4 : (m : Int) ≤ (cap : Int) := by omega
      have k5 : ¬ cap = k := by omega
      have k6 : (0 : Int) ≤ (k : Int) := by omega
      have k7 : (m : Int).toNat - (k : Int).toNat = m - k := by omega
      clear KP oy b7 HT6 HG4 HG5 hsx HB6 HS H3 H4 HG
      generalize zs.length = zl at *
      go_wp2
      have hbd : Below w7.heap.size w7 w7.drew := (Below.refl w7.heap.size w7).drew
      go_region_held3 (fun w' => (convert 22 9 y).run Tryd.prog w' = .ok (.string sx) w' ∧ (convert 22 9 (.slice (some ⟨bb, off + k, none⟩) (m - k) (cap - k))).run Tryd.prog w' = .ok (.string sx) w' ∧ Below w7.heap.size w7 w') (first | exact ⟨unhide CY _ (by assumption), unhide CC _ (by assumption), by assumption⟩ | (have hbx : Below w7.heap.size w7 _ := (Below.refl w7.heap.size w7).drew; exact ⟨unhide CY _ hbx, unhide CC _ hbx, hbx⟩) | go_keep) (first | (go_at_call 15; refine ((unhide KT) _ (by assumption)).mono ?_; rintro e8 w8 ⟨rfl, b8⟩; have hb8 := bthen (by assumption : Below w7.heap.size w7 _) b8))
      go_wp2
      go_ret
      exact ⟨by simp, by first | exact bthen (unhide HB7) (by assumption) | skip⟩
    · have hz9 : (er != 0) = true := by simpa using he
      have KT := hide (told20 w6 ((unhide HG).on (unhide HB6)))
      clear hback he
      go_wp2_with fail
      refine (unhide KT).mono ?_
      rintro e7 w7 ⟨rfl, b7⟩
      have HF := hide (bthen (unhide HB6) b7)
      clear KT b7 HB6
      go_wp2
      go_ret
      exact ⟨rfl, unhide HF⟩
end Go.Proofs.YtcnmmghkjblemaaDoor
