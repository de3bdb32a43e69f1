/- NameSorts: any texts. -/
import Derived.Test.YtcnmmghkjblemaaDoorOc20
import Derived.Lib.MinMaxS
namespace Go.Proofs.YtcnmmghkjblemaaDoor
open Go.RowKit

theorem txt_strs20 (X : List (List Int)) : txt20 X = (X.map strOfNums).map Value.string := by simp [txt20]
theorem txt_nums20 (A : List ByteArray) : txt20 (A.map nums) = A.map Value.string := by
  rw [txt20, List.map_map]
  exact List.map_congr_left fun x _ => congrArg Value.string (str_nums20 x)
set_option maxRecDepth 8000 in
set_option maxHeartbeats 4000000 in
/-- NameSorts. -/
theorem sorts_law20 (v : Value) (ts : List ByteArray) (w : World) (hg : Gl20 w) (h : Sv w v (ts.map Value.string)) (hl : ts.length ≤ 10000000) (hz : ∀ x ∈ ts, x.size ≤ 1000000000) : Calls Tryd.prog 5 #[v] w (Tells w true) := by
  obtain ⟨i0, hi, hz0, hz1, hz2⟩ := parts20 inf20
  obtain ⟨ao, cap, rfl, hc1, hc2⟩ := h.shape
  rw [List.length_map] at *
  obtain ⟨n, hn⟩ : ∃ n, n = min ts.length 60 := ⟨_, rfl⟩
  have hmin : min (ts.length : Int) 60 = (n : Int) := by omega
  have hh := h.head (k := n) (by omega) hc1
  rw [← List.map_take] at hh
  have hzA : ∀ x ∈ ts.take n, x.size ≤ 1000000000 := fun x hx => hz x (List.mem_of_mem_take hx)
  have hAl : (ts.take n).length = n := by rw [List.length_take]; omega
  have hn60 : n ≤ 60 := by omega
  have hnl : n ≤ ts.length := by omega
  generalize ts.take n = A at *
  have HH := hide hh
  have HG := hide hg
  have HF : Hid (∀ a ∈ A.map nums, Byt a ∧ a.length ≤ 1000000000) := fun a ha => by
    obtain ⟨x, hx, rfl⟩ := List.mem_map.1 ha
    exact ⟨nums_byt x, by rw [nums_length]; exact hzA x hx⟩
  have hXl : (A.map nums).length = n := by rw [List.length_map]; exact hAl
  have q1 : (n : Int) ≤ (cap : Int) := by omega
  have q2 : (0 : Int) ≤ (n : Int) := by omega
  have q3 : (n : Int) ≤ (ts.length : Int) := by omega
  clear h hh hz hzA hg hn
  generalize ts.length = tl at *
  go_enter Tryd.func5, Tryd.ntmps5
  go_wp2_with (at_builtin; refine wp_app20 rfl (.tmp 10) (.tmp 13) 32 rfl w.heap.size 9 i0 (.string ⟨#[]⟩) 16 Tryd.underlying32 hi hz0 hz1 hz2 rfl _ _ [] (A.map Value.string) rfl (Ow.nil _ _ _) rfl (unhide HH) (strs_one20 _) (by rw [List.length_map]; simp; omega) (by decide) (Nat.le_refl _) ?_)
  intro v1 w1 o1 f1
  have b1 : Below w.heap.size w w1 := f1 _ (Below.refl _ _)
  have O1 : Hid (Ow 9 w1 w.heap.size v1 (A.map Value.string)) := by show Ow _ _ _ _ _; simpa using o1
  have z1 := b1.size
  have B1 := hide b1
  clear o1 f1 b1
  go_wp2_with (at_builtin; refine wp_app20 rfl (.tmp 15) (.tmp 16) 32 rfl w.heap.size 9 i0 (.string ⟨#[]⟩) 16 Tryd.underlying32 hi hz0 hz1 hz2 rfl _ _ (A.map Value.string) [Value.string ⟨#[63]⟩, Value.string ⟨#[33]⟩] rfl ((unhide O1).below ((Below.refl _ _).alloc (Nat.le_refl _) _)) rfl (sv_new20 w1 9 [Value.string ⟨#[63]⟩, Value.string ⟨#[33]⟩] (by decide)) (by intro u hu; simp at hu; rcases hu with rfl | rfl <;> rfl) (by rw [List.length_map]; simp; omega) (by decide) (by simp; omega) ?_)
  intro v2 w2 o2 f2
  have b2 : Below w.heap.size w w2 := f2 _ ((unhide B1).alloc z1 _)
  have hrow := o2.2
  have hlen2 : (A.map Value.string ++ [Value.string ⟨#[63]⟩, Value.string ⟨#[33]⟩]).length = n + 2 := by simp [hAl]
  rw [hlen2] at hrow
  obtain ⟨g, c2, rfl, hg1, hg2⟩ := own_shape hrow (by omega)
  have HIN : Hid (Sv w2 (.slice (some ⟨g, 0, none⟩) n c2) (A.map Value.string)) := by
    have := (o2.sv).head (k := n) (by omega) hg1
    rw [List.take_left' (by rw [List.length_map]; exact hAl)] at this
    exact this
  have HC1 : Hid (∀ W, Below w2.heap.size w2 W → W.cell? ⟨g, n, none⟩ = some (.string ⟨#[63]⟩) ∧ W.cell? ⟨g, n + 1, none⟩ = some (.string ⟨#[33]⟩)) := fun W hW => by
    obtain ⟨b9, o9, c9, he, _, _, hc⟩ := (o2.sv.below hW).place (by rw [hlen2]; omega)
    simp only [Value.slice.injEq, Option.some.injEq, Addr.mk.injEq] at he
    obtain ⟨⟨rfl, rfl, _⟩, _, _⟩ := he
    have e1 := hc n (by rw [hlen2]; omega)
    have e2 := hc (n + 1) (by rw [hlen2]; omega)
    rw [Nat.zero_add] at e1 e2
    refine ⟨e1.trans ?_, e2.trans ?_⟩
    · rw [List.getD, List.getElem?_append_right (by rw [List.length_map]; omega), List.length_map, hAl, Nat.sub_self]; rfl
    · rw [List.getD, List.getElem?_append_right (by rw [List.length_map]; omega), List.length_map, hAl, show n + 1 - n = 1 by omega]; rfl
  have B2 := hide b2
  have q4 : (n : Int) ≤ (c2 : Int) := by omega
  have q5 : (n : Int) + 2 ≤ (c2 : Int) := by omega
  have q6 : (n : Int) ≤ (n : Int) + 2 := by omega
  clear o2 f2 b2 hrow hlen2 O1 B1 z1
  have KS : Hid (Calls Tryd.prog 24 #[.slice (some ⟨g, 0, none⟩) n c2] w2 (TxtB20 w2 (Na.srt (A.map nums)))) := by
    have := sorted20 (w := w2) (b := g) (off := 0) (cap := c2) (X := A.map nums) (by rw [hXl, txt_nums20]; exact unhide HIN) (unhide HF) (by omega)
    rw [hXl] at this
    exact this
  have KR : Hid (∀ W, Below w2.heap.size w2 W → Calls Tryd.prog 25 #[.slice ao n cap] W (TxtB20 W (Na.srt (A.map nums)))) := fun W hW => refSorted20 (by rw [txt_nums20]; exact (unhide HH).below (bthen (unhide B2) hW)) (unhide HF) (by omega)
  have KM : Hid (∀ W, Below w2.heap.size w2 W → Calls Tryd.prog 16 #[.slice (some ⟨g, 0, none⟩) n c2, .slice ao n cap] W (Draws W true)) := fun W hW => same20 ((unhide HIN).below hW) ((unhide HH).below (bthen (unhide B2) hW))
  have hZl : (Na.srt (A.map nums)).length = n := by rw [Na.srt_len]; exact hXl
  clear HF HH hXl
  generalize Na.srt (A.map nums) = Z at *
  have HZL : Hid (∀ M : List (List Int), M = Z → M.length = n) := fun M hM => by rw [hM]; exact hZl
  go_wp2_with fail
  refine (unhide KS).mono ?_
  rintro e w3 ⟨v3, rfl, o3, b3⟩
  obtain ⟨a3, c3, rfl, hd1, hd2⟩ := o3.sv.shape
  rw [txt_len20, hZl] at *
  have O3 := hide o3
  have B3 := hide b3
  clear KS o3 b3
  go_wp2_with fail
  refine (told20 _ ((unhide HG).on (bthen (unhide B2) (unhide B3)))).mono ?_
  rintro e w4 ⟨rfl, b4⟩
  have B4 := hide (bthen (unhide B3) b4)
  have O4 := hide ((unhide O3).below b4)
  clear b4 B3 O3 HG
  have K5 := hide (unhide KR w4 (unhide B4))
  go_wp2_with fail
  refine (unhide K5).mono ?_
  rintro e w5 ⟨v5, rfl, o5, b5⟩
  have B5 := hide (bthen (unhide B4) b5)
  have O5 := hide ((unhide O4).below b5)
  have K6 : Hid (Calls Tryd.prog 16 #[.slice a3 n c3, v5] w5 (Draws w5 true)) := same20 (A := Z.map strOfNums) (by rw [← txt_strs20]; exact (unhide O5).sv) (by rw [← txt_strs20]; exact o5.sv)
  clear b5 B4 O4 K5 KR o5
  go_wp2_with fail
  refine (unhide K6).mono ?_
  rintro e w6 ⟨rfl, d6⟩
  have B6 := hide (bthen (unhide B5) (drewB d6))
  have O6 := hide ((unhide O5).below (drewB d6))
  have K7 := hide (unhide KM w6 (unhide B6))
  clear K6 d6 B5 O5
  go_wp2_with fail
  refine (unhide K7).mono ?_
  rintro e w7 ⟨rfl, d7⟩
  have B7 := hide (bthen (unhide B6) (drewB d7))
  have O7 := hide ((unhide O6).below (drewB d7))
  obtain ⟨x1, x2⟩ := unhide HC1 w7 (unhide B7)
  have OR : Hid (w7.ownsRow w2.heap.size 9 1 (.slice a3 n c3) n (txt20 Z)) := by
    have := (unhide O7).2
    rw [txt_len20, unhide HZL Z rfl] at this
    exact this
  clear K7 d7 B6 O6 O7 HC1 HIN
  have hw2 : IntKind.i64.wrap ((n : Int) + 2) = (n : Int) + 2 := by rw [IntKind.wrap_i64]; omega
  have hw1 : IntKind.i64.wrap ((n : Int) + 1) = (n : Int) + 1 := by rw [IntKind.wrap_i64]; omega
  have q7 : (n : Int) < (n : Int) + 2 := by omega
  have q8 : (n : Int) + 1 < (n : Int) + 2 := by omega
  go_wp2
  clear x1 x2
  go_loopw [6] (fun vi wr => ∃ (i : Nat) (us : List Value), vi = .int .i64 i ∧ i ≤ n ∧ wr.ownsRow w2.heap.size 9 1 (.slice a3 n c3) n us ∧ Below w2.heap.size w2 wr) (fun vi _ => n - (intOf vi).toNat)
  case atStart => exact ⟨0, txt20 Z, rfl, by omega, unhide OR, unhide B7⟩
  case round =>
    clear OR B7
    obtain ⟨i, us, rfl, hin, ho, hb⟩ := hrel
    by_cases h1 : i < n
    · obtain ⟨g3, rfl, hgb⟩ : ∃ g3, a3 = some ⟨g3, 0, none⟩ ∧ w2.heap.size ≤ g3 := by
        rcases ho.2 with ⟨_, h0⟩ | ⟨g3, c9, cur, he, hbase, _⟩
        · omega
        · simp only [Value.slice.injEq] at he
          exact ⟨g3, he.1, hbase⟩
      have hul : us.length = n := by have := ho.1; omega
      have x1 := ho.cellAt i (by omega)
      rw [List.getElem?_eq_getElem (by omega)] at x1
      have x2 := ho.frozenAt i
      have HS := hide (ho.stored i (.string ⟨#[63]⟩)).1
      have HB := hide (hb.setCell (p := ⟨g3, i, none⟩) hgb (.string ⟨#[63]⟩))
      have I1 : (i : Int) < (n : Int) := by omega
      clear ho hb
      generalize us[i] = ui at *
      go_wp2
      go_roundw
      case rel => exact ⟨i + 1, us.set i (.string ⟨#[63]⟩), by go_num, by omega, unhide HS, unhide HB⟩
      case measure => simp [intOf]; omega
    · have I1 : ¬ ((i : Int) < (n : Int)) := by omega
      have K8 := hide (unhide KM wr hb)
      have HB := hide (bthen (unhide B2) hb)
      clear ho hb
      go_wp2_with fail
      refine (unhide K8).mono ?_
      rintro e w9 ⟨rfl, d9⟩
      have HF := hide (bthen (unhide HB) (drewB d9))
      clear K8 d9 HB
      go_wp2
      go_ret
      exact ⟨rfl, unhide HF⟩
end Go.Proofs.YtcnmmghkjblemaaDoor
