/- NamePacks: any text, any bytes at any place. -/
import Derived.Test.YtcnmmghkjblemaaDoorOf20
import Derived.Test.YtcnmmghkjblemaaDoorOg20
namespace Go.Proofs.YtcnmmghkjblemaaDoor
open Go.RowKit

theorem strc_sk20 {w : World} {v : Value} {zs : List Int} (h : Sk .u8 w v zs) {W : World} (hb : Below w.heap.size w W) : (convert 22 9 v).run Tryd.prog W = .ok (.string (strOfNums zs)) W := (h.below hb).conv20
def PakE20 (w : World) (pe : Int) (E : List Int) (e : Ending) (w' : World) : Prop := ∃ v, e = .returned (.tuple #[v, .int .i64 pe]) ∧ Ok .u8 5 w' w.heap.size v E ∧ Below w.heap.size w w'
set_option maxRecDepth 20000 in
set_option maxHeartbeats 8000000 in
/-- NamePacks. -/
theorem packs_law20 (s : ByteArray) (v : Value) (zs : List Int) (at_ : Int) (w : World) (hg : Gl20 w) (hs : s.size ≤ 10000000) (h : Sk .u8 w v zs) (hl : zs.length ≤ 10000000) (_ : -9223372036854775808 ≤ at_ ∧ at_ ≤ 9223372036854775807) : Calls Tryd.prog 3 #[.string s, v, .int .i64 at_] w (Tells w true) := by
  obtain ⟨i0, hi, hz0, hz1, hz2⟩ := parts20 inf8_20
  obtain ⟨ao, cap, rfl, hc1, hc2⟩ := h.shape
  have HG := hide hg
  have HH := hide h
  obtain ⟨n, hn⟩ : ∃ n, n = zs.length := ⟨_, rfl⟩
  have hzn : zs.length = n := hn.symm
  rw [hzn] at hl hc1
  clear h hg hn
  have HLN : Hid (∀ M : List Int, M = zs → M.length = n) := fun M hM => by rw [hM]; exact hzn
  rw [hzn]
  clear hzn
  go_enter Tryd.func3, Tryd.ntmps3
  go_wp2_with (at_builtin; refine wp_app20 rfl (.tmp 25) (.tmp 26) 22 rfl w.heap.size 5 i0 (.int .u8 0) 1 Tryd.underlying22 hi hz0 hz1 hz2 rfl _ _ [] (zs.map (Value.int .u8)) rfl (Ow.nil _ _ _) rfl (by have := (unhide HH).2; rw [unhide HLN zs rfl] at this; exact this) (ints_one _ _) (by rw [List.length_map, unhide HLN zs rfl]; simp; omega) (by decide) (Nat.le_refl _) ?_)
  intro v1 w1 o1 f1
  have b1 : Below w.heap.size w w1 := f1 _ (Below.refl _ _)
  have O1 : Hid (Ow 5 w1 w.heap.size v1 (zs.map (Value.int .u8))) := by show Ow _ _ _ _ _; simpa using o1
  have z1 := b1.size
  have B1 := hide b1
  clear o1 f1 b1
  go_wp2_with (at_builtin; refine wp_app20 rfl (.tmp 28) (.tmp 29) 22 rfl w.heap.size 5 i0 (.int .u8 0) 1 Tryd.underlying22 hi hz0 hz1 hz2 rfl _ _ (zs.map (Value.int .u8)) [Value.int .u8 77, Value.int .u8 78] rfl ((unhide O1).below ((Below.refl _ _).alloc (Nat.le_refl _) _)) rfl (sv_new20 w1 5 [Value.int .u8 77, Value.int .u8 78] (by decide)) (by intro u hu; simp at hu; rcases hu with rfl | rfl <;> rfl) (by rw [List.length_map, unhide HLN zs rfl]; simp; omega) (by decide) (by simp; omega) ?_)
  intro v2 w2 o2 f2
  have b2 : Below w.heap.size w w2 := f2 _ ((unhide B1).alloc z1 _)
  have hrow := o2.2
  have hlen2 : (zs.map (Value.int .u8) ++ [Value.int .u8 77, Value.int .u8 78]).length = n + 2 := by simp [unhide HLN zs rfl]
  rw [hlen2] at hrow
  obtain ⟨g, c2, rfl, hg1, hg2⟩ := own_shape hrow (by omega)
  have HIN : Hid (Sk .u8 w2 (.slice (some ⟨g, 0, none⟩) n c2) zs) := by
    have := (o2.sv).head (k := n) (by omega) hg1
    rw [List.take_left' (by rw [List.length_map]; exact unhide HLN zs rfl)] at this
    exact ⟨(unhide HH).1, this⟩
  have HC1 : Hid (∀ W, Below w2.heap.size w2 W → W.cell? ⟨g, n, none⟩ = some (.int .u8 77) ∧ W.cell? ⟨g, n + 1, none⟩ = some (.int .u8 78)) := fun W hW => by
    obtain ⟨b9, o9, c9, he, _, _, hc⟩ := (o2.sv.below hW).place (by rw [hlen2]; omega)
    simp only [Value.slice.injEq, Option.some.injEq, Addr.mk.injEq] at he
    obtain ⟨⟨rfl, rfl, _⟩, _, _⟩ := he
    have e1 := hc n (by rw [hlen2]; omega)
    have e2 := hc (n + 1) (by rw [hlen2]; omega)
    rw [Nat.zero_add] at e1 e2
    have hll : zs.length = n := unhide HLN zs rfl
    refine ⟨e1.trans ?_, e2.trans ?_⟩
    · rw [List.getD, List.getElem?_append_right (by rw [List.length_map]; omega), List.length_map, hll, Nat.sub_self]; rfl
    · rw [List.getD, List.getElem?_append_right (by rw [List.length_map]; omega), List.length_map, hll, show n + 1 - n = 1 by omega]; rfl
  have B2 := hide b2
  have q1 : (0 : Int) ≤ (n : Int) := by omega
  have q4 : (n : Int) ≤ (c2 : Int) := by omega
  have q5 : (n : Int) + 2 ≤ (c2 : Int) := by omega
  have q6 : (n : Int) ≤ (n : Int) + 2 := by omega
  have hw2 : IntKind.i64.wrap ((n : Int) + 2) = (n : Int) + 2 := by rw [IntKind.wrap_i64]; omega
  have hw1 : IntKind.i64.wrap ((n : Int) + 1) = (n : Int) + 1 := by rw [IntKind.wrap_i64]; omega
  have q7 : (n : Int) < (n : Int) + 2 := by omega
  have q8 : (n : Int) + 1 < (n : Int) + 2 := by omega
  clear o2 f2 b2 hrow hlen2 O1 B1 z1
  have K3 : Hid (Calls Tryd.prog 10 #[.string s] w2 (PakE20 w2 (Na.pkE (nums s)) (if Na.pkE (nums s) = 0 then Na.enc (Na.lab (nums s)) else []))) := pack20 spltC20 s w2 (by omega) ((unhide HG).on (unhide B2))
  have KR4 : Hid (∀ W, Calls Tryd.prog 11 #[.string s] W (PakE20 W (Na.pkE (nums s)) (if Na.pkE (nums s) = 0 then Na.enc (Na.lab (nums s)) else []))) := fun W => refPack20 s W (by omega)
  generalize (if Na.pkE (nums s) = 0 then Na.enc (Na.lab (nums s)) else []) = E at *
  generalize Na.pkE (nums s) = pe at *
  have KU5 : Hid (∀ W, Below w2.heap.size w2 W → Calls Tryd.prog 12 #[.slice (some ⟨g, 0, none⟩) n c2, .int .i64 at_] W (UnpP20 W (Na.una zs at_))) := fun W hW => unpack20 ((unhide HIN).below hW) at_ (by rw [unhide HLN zs rfl]; omega)
  have KU6 : Hid (∀ W, Below w2.heap.size w2 W → Calls Tryd.prog 13 #[.slice ao n cap, .int .i64 at_] W (UnpP20 W (Na.una zs at_))) := fun W hW => by
    have hh := (unhide HH).below (bthen (unhide B2) hW)
    rw [unhide HLN zs rfl] at hh
    exact refUnpack20 hh at_ (by rw [unhide HLN zs rfl]; omega)
  have KL : Hid (∀ W, Below w2.heap.size w2 W → Calls Tryd.prog 14 #[.string s] W (TxtB20 W (Na.lab (nums s)))) := fun W hW => labels20 spltC20 s W (by omega) ((unhide HG).on (bthen (unhide B2) hW))
  have KT : Hid (∀ W, Below w2.heap.size w2 W → Calls Tryd.prog 15 #[] W (Tells W true)) := fun W hW => told20 W ((unhide HG).on (bthen (unhide B2) hW))
  have KRL : Hid (∀ W, Calls Tryd.prog 17 #[.string s] W (TxtB20 W (Na.lab (nums s)))) := fun W => refLabels20 s W (by omega)
  have CB : Hid (∀ W, Below w2.heap.size w2 W → (convert 22 9 (.slice (some ⟨g, 0, none⟩) n c2)).run Tryd.prog W = .ok (.string (strOfNums zs)) W ∧ (convert 22 9 (.slice ao n cap)).run Tryd.prog W = .ok (.string (strOfNums zs)) W) := fun W hW => by
    have hh := (unhide HH).below (bthen (unhide B2) hW)
    rw [unhide HLN zs rfl] at hh
    exact ⟨((unhide HIN).below hW).conv20, hh.conv20⟩
  clear HH HIN HG HLN
  generalize strOfNums zs = bs at *
  generalize Na.una zs at_ = q at *
  obtain ⟨er, tl, p⟩ := q
  have HLL : Hid (∀ M : List (List Int), M = Na.lab (nums s) → M.length ≤ 1000000001) := fun M hM => by rw [hM]; exact (Na.lab_fine (nums_byt s) (by rw [nums_length]; omega)).1
  generalize Na.lab (nums s) = X at *
  go_wp2_with fail
  refine (unhide K3).mono ?_
  rintro e w3 ⟨x, rfl, ox, b3⟩
  have B3 := hide b3
  have OX := hide ox
  clear K3 ox b3
  go_wp2_with fail
  refine (unhide KR4 _).mono ?_
  rintro e w4 ⟨y, rfl, oy, b4⟩
  have B4 := hide (bthen (unhide B3) b4)
  have OX4 := hide ((unhide OX).below b4)
  have OY := hide oy
  clear oy b4 B3 OX KR4
  go_wp2_with fail
  refine (unhide KU5 _ (unhide B4)).mono ?_
  rintro e w5 ⟨t5, rfl, ht5, b5⟩
  have B5 := hide (bthen (unhide B4) b5)
  have OX5 := hide ((unhide OX4).below b5)
  have OY5 := hide ((unhide OY).below b5)
  clear b5 B4 OX4 OY KU5
  go_wp2_with fail
  refine (unhide KU6 _ (unhide B5)).mono ?_
  rintro e w6 ⟨t6, rfl, ht6, b6⟩
  obtain rfl : t5 = t6 := nums_inj (ht5.trans ht6.symm)
  have B6 := hide (bthen (unhide B5) b6)
  have OX6 := hide ((unhide OX5).below b6)
  have OY6 := hide ((unhide OY5).below b6)
  clear b6 B5 OX5 OY5 KU6 ht5 ht6
  simp only
  go_wp2_with fail
  refine (unhide KL _ (unhide B6)).mono ?_
  rintro e w7 ⟨vl, rfl, ol, b7⟩
  have B7 := hide (bthen (unhide B6) b7)
  have OX7 := hide ((unhide OX6).below b7)
  have OY7 := hide ((unhide OY6).below b7)
  have z67 := b7.size
  have OL := hide ol
  clear b7 OX6 OY6 ol
  go_wp2_with fail
  refine (unhide KL _ (unhide B7)).mono ?_
  rintro e w8 ⟨vm, rfl, om, b8⟩
  have B8 := hide (bthen (unhide B7) b8)
  have OX8 := hide ((unhide OX7).below b8)
  have OY8 := hide ((unhide OY7).below b8)
  have OL8 := hide ((unhide OL).below b8)
  have HLB : Hid (∀ k, vl.ownBlock = some k → w6.heap.size ≤ k ∧ k < w7.heap.size) := fun k hk => (unhide OL).2.lt k hk
  have OM := hide om
  clear b8 OX7 OY7 OL om KL B7
  go_wp2_with fail
  refine (unhide KT _ (unhide B8)).mono ?_
  rintro e w9 ⟨rfl, b9⟩
  have B9 := hide (bthen (unhide B8) b9)
  have cx := ((unhide OX8).below b9).sk.conv20
  have cy := ((unhide OY8).below b9).sk.conv20
  have OL9 := hide ((unhide OL8).below b9)
  have OM9 := hide ((unhide OM).below b9)
  generalize strOfNums E = es at *
  clear b9 OX8 OY8 OL8 OM KT B8
  go_wp2_with fail
  refine (unhide KRL _).mono ?_
  rintro e w10 ⟨v10, rfl, o10, b10⟩
  have B10 := hide (bthen (unhide B9) b10)
  have OL10 := hide ((unhide OL9).below b10)
  have OM10 := hide ((unhide OM9).below b10)
  have K11 : Hid (Calls Tryd.prog 16 #[vl, v10] w10 (Draws w10 true)) := same20 (A := X.map strOfNums) (by rw [← txt_strs20]; exact (unhide OL10).sv) (by rw [← txt_strs20]; exact o10.sv)
  clear b10 OL9 OM9 o10 B9 cx cy
  go_wp2_with fail
  refine (unhide K11).mono ?_
  rintro e w11 ⟨rfl, d11⟩
  have B11 := hide (bthen (unhide B10) (drewB d11))
  have OL11 := hide ((unhide OL10).below (drewB d11))
  have OM11 := hide ((unhide OM10).below (drewB d11))
  obtain ⟨x1, x2⟩ := unhide HC1 w11 (unhide B11)
  obtain ⟨c1, c2'⟩ := unhide CB w11 (unhide B11)
  have hL : X.length ≤ 1000000001 := unhide HLL X rfl
  obtain ⟨al, cl, rfl, hl1, hl2⟩ := (unhide OL11).sv.shape
  have ORL : Hid (w11.ownsRow w6.heap.size 9 1 (.slice al (txt20 X).length cl) (txt20 X).length (txt20 X)) := (unhide OL11).2
  have ORM : Hid (w11.ownsRow w7.heap.size 9 1 vm (txt20 X).length (txt20 X)) := (unhide OM11).2
  rw [txt_len20] at *
  clear K11 d11 B10 OL10 OM10 OL11 OM11 HC1 CB
  go_wp2
  clear x1 x2 c1 c2'
  go_loopw [22] (fun vi wr => ∃ (i : Nat) (us : List Value), vi = .int .i64 i ∧ i ≤ X.length ∧ wr.ownsRow w6.heap.size 9 1 (.slice al X.length cl) X.length us ∧ wr.ownsRow w7.heap.size 9 1 vm X.length (txt20 X) ∧ Below w2.heap.size w2 wr) (fun vi _ => X.length - (intOf vi).toNat)
  case atStart => exact ⟨0, txt20 X, rfl, by omega, unhide ORL, unhide ORM, unhide B11⟩
  case round =>
    clear ORL ORM B11
    obtain ⟨i, us, rfl, hin, ho, hm, hb⟩ := hrel
    by_cases h1 : i < X.length
    · obtain ⟨g3, rfl⟩ : ∃ g3, al = some ⟨g3, 0, none⟩ := by
        rcases ho.2 with ⟨_, h0⟩ | ⟨g3, c9, cur, he, hbase, _⟩
        · omega
        · simp only [Value.slice.injEq] at he
          exact ⟨g3, he.1⟩
      obtain ⟨y1, y2⟩ := unhide HLB g3 rfl
      have hul : us.length = X.length := by have := ho.1; omega
      have x1 := ho.cellAt i (by omega)
      rw [List.getElem?_eq_getElem (by omega)] at x1
      have x2 := ho.frozenAt i
      have HS := hide (ho.stored i (.string ⟨#[63]⟩)).1
      have HM := hide (hm.kept (ho.stored i (.string ⟨#[63]⟩)).2 (by
        cases hob : vm.ownBlock with
        | none => exact .inl rfl
        | some k =>
          refine .inr fun e => ?_
          have := (hm.lt k hob).1
          simp only [Option.some.injEq] at e
          omega))
      have HB := hide (hb.setCell (p := ⟨g3, i, none⟩) (Nat.le_trans (unhide B6).size y1) (.string ⟨#[63]⟩))
      have I1 : (i : Int) < (X.length : Int) := by omega
      clear ho hb hm
      generalize us[i] = ui at *
      go_wp2
      go_roundw
      case rel => exact ⟨i + 1, us.set i (.string ⟨#[63]⟩), by go_num, by omega, unhide HS, unhide HM, unhide HB⟩
      case measure => simp [intOf]; omega
    · have I1 : ¬ ((i : Int) < (X.length : Int)) := by omega
      have HM := hide hm
      have HB := hide (bthen (unhide B2) hb)
      clear ho hb hm
      go_wp2_with fail
      refine (unhide KRL _).mono ?_
      rintro e w12 ⟨v12, rfl, o12, b12⟩
      have HM2 : Hid (Ow 9 w12 w7.heap.size vm (txt20 X)) := Ow.below ⟨by rw [txt_len20]; omega, by rw [txt_len20]; exact unhide HM⟩ b12
      have K13 : Hid (Calls Tryd.prog 16 #[vm, v12] w12 (Draws w12 true)) := same20 (A := X.map strOfNums) (by rw [← txt_strs20]; exact (unhide HM2).sv) (by rw [← txt_strs20]; exact o12.sv)
      have HB2 := hide (bthen (unhide HB) b12)
      clear o12 b12 HM HM2 HB
      go_wp2_with fail
      refine (unhide K13).mono ?_
      rintro e w13 ⟨rfl, d13⟩
      have HF := hide (bthen (unhide HB2) (drewB d13))
      clear K13 d13 HB2
      go_wp2
      go_ret
      exact ⟨rfl, unhide HF⟩
end Go.Proofs.YtcnmmghkjblemaaDoor
