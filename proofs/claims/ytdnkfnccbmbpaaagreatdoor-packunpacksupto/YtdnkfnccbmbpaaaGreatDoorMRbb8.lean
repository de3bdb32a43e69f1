/- The document's Pack (8.1). -/
import Derived.Test.YtdnkfnccbmbpaaaGreatDoorMRba8
import Derived.Test.YtdnkfnccbmbpaaaGreatDoorMRefS1
import Derived.Test.YtdnkfnccbmbpaaaGreatDoorMRw7
import Derived.Laws.BitsLemmas
namespace Go.Proofs.YtdnkfnccbmbpaaaGreatDoor
open Go.RowKit
open Wi

theorem nil_small : (⟨#[]⟩ : ByteArray).size ≤ 4 := by decide
theorem right_all {r : Rec} (h : Cn.right r = 0) : (0 ≤ r.lo ∧ r.lo ≤ r.hi) ∧ 0 ≤ r.n ∧ (r.to.length ≤ 24 ∧ ∀ z ∈ r.to, 0 ≤ z) ∧ r.name.size ≤ 4 ∧ r.other.size ≤ 4 ∧ (r.kind = 4 → r.to.length = 1) ∧ (1 ≤ r.kind ∧ r.kind ≤ 15) := by
  have hk := Cn.fam_kinds (Cn.right_kind h)
  have hk15 : r.kind = 1 ∨ r.kind = 2 ∨ r.kind = 3 ∨ r.kind = 4 ∨ r.kind = 5 ∨ r.kind = 6 ∨ r.kind = 7 ∨ r.kind = 8 ∨ r.kind = 9 ∨ r.kind = 10 ∨ r.kind = 11 ∨ r.kind = 12 ∨ r.kind = 13 ∨ r.kind = 14 ∨ r.kind = 15 := by omega
  rcases hk15 with hk1 | hk1 | hk1 | hk1 | hk1 | hk1 | hk1 | hk1 | hk1 | hk1 | hk1 | hk1 | hk1 | hk1 | hk1
  · obtain ⟨⟨a1, a2, _⟩, a4, a5, a6, a7, _⟩ := right_at1 h hk1
    exact ⟨⟨a1, a2⟩, by omega, ⟨by rw [a5]; simp, by rw [a5]; simp⟩, by rw [a6]; exact nil_small, by rw [a7]; exact nil_small, fun e => by omega, hk⟩
  · obtain ⟨⟨a1, a2, _⟩, a4, a5, a6, a7, _⟩ := right_at2 h hk1
    exact ⟨⟨a1, a2⟩, by omega, ⟨by rw [a5]; simp, by rw [a5]; simp⟩, by rw [a6]; exact nil_small, by rw [a7]; exact nil_small, fun e => by omega, hk⟩
  · obtain ⟨⟨a1, a2, _⟩, a4, a6, a7, _, b1, b2⟩ := right_at3 h hk1
    exact ⟨⟨a1, a2⟩, by omega, ⟨b1.2, fun z hz => (b2 z hz).1⟩, by rw [a6]; exact nil_small, by rw [a7]; exact nil_small, fun e => by omega, hk⟩
  · obtain ⟨⟨a1, a2, _⟩, a6, a7, _, a4, b1, b2, _⟩ := right_at4 h hk1
    refine ⟨⟨a1, a2⟩, by omega, ⟨by omega, fun z hz => ?_⟩, by rw [a6]; exact nil_small, by rw [a7]; exact nil_small, fun _ => b1, hk⟩
    match hr : r.to, b1 with
    | [x], _ =>
      rw [hr] at hz b2
      simp only [List.mem_cons, List.mem_nil_iff, or_false] at hz
      subst hz
      exact b2
  · obtain ⟨⟨a1, _⟩, a2, a4, a6, a7, _, b1, b2⟩ := right_at5 h hk1
    exact ⟨⟨a1, by omega⟩, by omega, ⟨b1, fun z hz => (b2 z hz).1⟩, by rw [a6]; exact nil_small, by rw [a7]; exact nil_small, fun e => by omega, hk⟩
  · obtain ⟨⟨a1, a2, _⟩, a5, a6, a7, _, a4, _⟩ := right_at6 h hk1
    exact ⟨⟨a1, a2⟩, a4, ⟨by rw [a5]; simp, by rw [a5]; simp⟩, by rw [a6]; exact nil_small, by rw [a7]; exact nil_small, fun e => by omega, hk⟩
  · obtain ⟨⟨a1, _⟩, a2, a4, a6, a7, _, b1, b2⟩ := right_at7 h hk1
    exact ⟨⟨a1, by omega⟩, by omega, ⟨b1, fun z hz => (b2 z hz).1⟩, by rw [a6]; exact nil_small, by rw [a7]; exact nil_small, fun e => by omega, hk⟩
  · obtain ⟨⟨a1, _⟩, a2, a4, a6, a7, _, b1, b2⟩ := right_at8 h hk1
    exact ⟨⟨a1, by omega⟩, by omega, ⟨b1, fun z hz => (b2 z hz).1⟩, by rw [a6]; exact nil_small, by rw [a7]; exact nil_small, fun e => by omega, hk⟩
  · obtain ⟨⟨a1, a2, _⟩, a5, a6, a7, _, a4, _⟩ := right_at9 h hk1
    exact ⟨⟨a1, a2⟩, a4, ⟨by rw [a5]; simp, by rw [a5]; simp⟩, by rw [a6]; exact nil_small, by rw [a7]; exact nil_small, fun e => by omega, hk⟩
  · obtain ⟨⟨a1, a2, _⟩, a5, a6, a7, _, a4, _⟩ := right_at10 h hk1
    exact ⟨⟨a1, a2⟩, a4, ⟨by rw [a5]; simp, by rw [a5]; simp⟩, by rw [a6]; exact nil_small, by rw [a7]; exact nil_small, fun e => by omega, hk⟩
  · obtain ⟨⟨a1, a2, _⟩, a4, a5, a6, a7, _⟩ := right_at11 h hk1
    exact ⟨⟨a1, a2⟩, by omega, ⟨by rw [a5]; simp, by rw [a5]; simp⟩, by rw [a6]; exact nil_small, by rw [a7]; exact nil_small, fun e => by omega, hk⟩
  · obtain ⟨⟨a1, a2, _⟩, a4, a5, a7, _, a6⟩ := right_at12 h hk1
    exact ⟨⟨a1, a2⟩, by omega, ⟨by rw [a5]; simp, by rw [a5]; simp⟩, by omega, by rw [a7]; exact nil_small, fun e => by omega, hk⟩
  · obtain ⟨⟨a1, _⟩, a2, a4, a6, a7, _, b1, b2⟩ := right_at13 h hk1
    exact ⟨⟨a1, by omega⟩, by omega, ⟨b1, fun z hz => (b2 z hz).1⟩, by rw [a6]; exact nil_small, by rw [a7]; exact nil_small, fun e => by omega, hk⟩
  · obtain ⟨⟨a1, a2, _⟩, a4, a5, a6, a7, _⟩ := right_at14 h hk1
    exact ⟨⟨a1, a2⟩, by omega, ⟨by rw [a5]; simp, by rw [a5]; simp⟩, by rw [a6]; exact nil_small, by rw [a7]; exact nil_small, fun e => by omega, hk⟩
  · obtain ⟨a1, a2, a4, a5, a6, a7, _⟩ := right_at15 h hk1
    exact ⟨⟨by omega, by omega⟩, by omega, ⟨by rw [a5]; simp, by rw [a5]; simp⟩, by omega, by omega, fun e => by omega, hk⟩
theorem letters (r : Rec) (k : Int) (h : 1 ≤ k ∧ k ≤ 15) : (nums (fstr k)).flatMap (lb r) = (Pk.form k).flatMap (Pk.fb r) ∧ (fstr k).size ≤ 3 ∧ ((nums (fstr k)).all (fun c => decide (c ≠ 84)) = true ∨ k = 4) := by
  have hk15 : k = 1 ∨ k = 2 ∨ k = 3 ∨ k = 4 ∨ k = 5 ∨ k = 6 ∨ k = 7 ∨ k = 8 ∨ k = 9 ∨ k = 10 ∨ k = 11 ∨ k = 12 ∨ k = 13 ∨ k = 14 ∨ k = 15 := by omega
  rcases hk15 with rfl | rfl | rfl | rfl | rfl | rfl | rfl | rfl | rfl | rfl | rfl | rfl | rfl | rfl | rfl
  · rw [show nums (fstr 1) = [83] from rfl, show Pk.form 1 = [0, 1] from rfl]
    exact ⟨by first | (simp [lb, Pk.fb]; done) | (simp [lb, Pk.fb]; rfl), by decide, .inl rfl⟩
  · rw [show nums (fstr 2) = [83] from rfl, show Pk.form 2 = [0, 1] from rfl]
    exact ⟨by first | (simp [lb, Pk.fb]; done) | (simp [lb, Pk.fb]; rfl), by decide, .inl rfl⟩
  · rw [show nums (fstr 3) = [83, 120] from rfl, show Pk.form 3 = [0, 1, 7] from rfl]
    exact ⟨by first | (simp [lb, Pk.fb]; done) | (simp [lb, Pk.fb]; rfl), by decide, .inl rfl⟩
  · rw [show nums (fstr 4) = [83, 78, 84] from rfl, show Pk.form 4 = [0, 1, 3, 4] from rfl]
    exact ⟨by first | (simp [lb, Pk.fb]; done) | (simp [lb, Pk.fb]; rfl), by decide, .inr rfl⟩
  · rw [show nums (fstr 5) = [76, 120] from rfl, show Pk.form 5 = [2, 7] from rfl]
    exact ⟨by first | (simp [lb, Pk.fb]; done) | (simp [lb, Pk.fb]; rfl), by decide, .inl rfl⟩
  · rw [show nums (fstr 6) = [83, 78] from rfl, show Pk.form 6 = [0, 1, 3] from rfl]
    exact ⟨by first | (simp [lb, Pk.fb]; done) | (simp [lb, Pk.fb]; rfl), by decide, .inl rfl⟩
  · rw [show nums (fstr 7) = [76, 120] from rfl, show Pk.form 7 = [2, 7] from rfl]
    exact ⟨by first | (simp [lb, Pk.fb]; done) | (simp [lb, Pk.fb]; rfl), by decide, .inl rfl⟩
  · rw [show nums (fstr 8) = [76, 120] from rfl, show Pk.form 8 = [2, 7] from rfl]
    exact ⟨by first | (simp [lb, Pk.fb]; done) | (simp [lb, Pk.fb]; rfl), by decide, .inl rfl⟩
  · rw [show nums (fstr 9) = [83, 78] from rfl, show Pk.form 9 = [0, 1, 3] from rfl]
    exact ⟨by first | (simp [lb, Pk.fb]; done) | (simp [lb, Pk.fb]; rfl), by decide, .inl rfl⟩
  · rw [show nums (fstr 10) = [83, 78] from rfl, show Pk.form 10 = [0, 1, 3] from rfl]
    exact ⟨by first | (simp [lb, Pk.fb]; done) | (simp [lb, Pk.fb]; rfl), by decide, .inl rfl⟩
  · rw [show nums (fstr 11) = [83] from rfl, show Pk.form 11 = [0, 1] from rfl]
    exact ⟨by first | (simp [lb, Pk.fb]; done) | (simp [lb, Pk.fb]; rfl), by decide, .inl rfl⟩
  · rw [show nums (fstr 12) = [83, 110] from rfl, show Pk.form 12 = [0, 1, 5] from rfl]
    exact ⟨by first | (simp [lb, Pk.fb]; done) | (simp [lb, Pk.fb]; rfl), by decide, .inl rfl⟩
  · rw [show nums (fstr 13) = [76, 120] from rfl, show Pk.form 13 = [2, 7] from rfl]
    exact ⟨by first | (simp [lb, Pk.fb]; done) | (simp [lb, Pk.fb]; rfl), by decide, .inl rfl⟩
  · rw [show nums (fstr 14) = [83, 87] from rfl, show Pk.form 14 = [0, 1, 8] from rfl]
    exact ⟨by first | (simp [lb, Pk.fb]; done) | (simp [lb, Pk.fb]; rfl), by decide, .inl rfl⟩
  · rw [show nums (fstr 15) = [110, 111, 87] from rfl, show Pk.form 15 = [5, 6, 8] from rfl]
    exact ⟨by first | (simp [lb, Pk.fb]; done) | (simp [lb, Pk.fb]; rfl), by decide, .inl rfl⟩
theorem refBytes_any {r : Rec} (vt : Value) (w : World) (hr : Cn.right r = 0) (hf : RecFit r) (hs : Sk .i32 w vt r.to) : Calls Tryz.prog 18 #[recV r vt] w fun e w' => ∃ v, e = .returned v ∧ Own w' w.heap.size v (Pk.rb r) ∧ Below w.heap.size w w' := by
  obtain ⟨⟨a1, a2⟩, a3, ⟨a4, a5⟩, a6, a7, a8, a9⟩ := right_all hr
  obtain ⟨b1, b2, b3⟩ := letters r r.kind a9
  have K := refBytes_core r vt (fstr r.kind) w hf hs ⟨by omega, by omega⟩ (fun W => refForm_any r.kind W a9) b2 a1 a2 a3 a4 a5 a6 a7 (fun k hk e => by
    rcases b3 with b3 | b3
    · have := List.all_eq_true.1 b3 ((nums (fstr r.kind)).getD k 0) (by
        have hl := nums_length (fstr r.kind)
        rw [← hl] at hk
        simp [List.getD, hk])
      exact absurd e (of_decide_eq_true this)
    · exact a8 b3)
  rw [b1] at K
  have e : Pk.rb r = r.kind :: (Pk.form r.kind).flatMap (Pk.fb r) := by unfold Pk.rb; rw [show r.kind % 256 = r.kind by omega]
  rw [e]
  exact K
theorem land255 (x : Int) (h0 : 0 ≤ x) (h1 : x < 4294967296) : bits BinOp.and IntKind.u32 x 255 = x % 256 := by
  have e32 : (2 : Int) ^ 32 = 4294967296 := by decide
  have h := bits_mask .u32 32 (by decide) (fun n h0 h1 => by rw [e32] at h1; rw [IntKind.wrap_u32]; omega) 8 (by decide) x h0 (by rw [e32]; exact h1)
  have e : ((2 : Int) ^ 8 - 1) = 255 := by decide
  have e2 : ((2 : Int) ^ 8) = 256 := by decide
  rw [e, e2] at h
  exact h
theorem own_snoc {W0 wr w8 : World} {bv v8 : Value} {qs : List Int} {c : Int} {o : Obj} (hB : Below W0.heap.size W0 wr) (hm : Own wr W0.heap.size bv qs) (hl : qs.length ≤ 1000000000) (hc : 0 ≤ c ∧ c ≤ 255) (hr : w8.ownsRow W0.heap.size 5 1 v8 (qs.length + 1) (qs.map (Value.int .u8) ++ [.int .u8 c])) (hg : (wr.alloc o).grownBy w8 bv.ownBlock) : Own w8 W0.heap.size v8 (qs ++ [c]) ∧ Below W0.heap.size W0 w8 := by
  have hb := hB.alloc hB.size o
  refine ⟨⟨hm.1.append (fun z hz => ?_), by rw [List.length_append]; simp only [List.length_cons, List.length_nil]; omega, by rw [List.length_append, List.map_append]; exact hr⟩, hb.grown hg hb.size (fun g hg' => (hm.2.2.lt g hg').1)⟩
  simp only [List.mem_cons, List.mem_nil_iff, or_false] at hz
  subst hz
  exact hc
theorem head_byt : Byt Pk.head := byt_of rfl
set_option maxRecDepth 8000 in
set_option maxHeartbeats 8000000 in
theorem refPack_any (v : Value) (rs : List Rec) (w : World) (hv : Rcs w v rs) : Calls Tryz.prog 7 #[v] w (PackB w (Pk.pack rs)) := by
  obtain ⟨i0, hi, hz0, hz1, hz2⟩ := info_parts Tryz.info5
  have K6 := hide (refCheck6 v rs w hv)
  unfold CheckB at K6
  have hlen := hv.1
  obtain ⟨ao, cap, hve, _, _⟩ := hv.shape
  by_cases hq : (Cn.check6 rs).2 = 0
  · obtain ⟨hl4, hall, _⟩ := Cn.check6_iff.1 hq
    have HP1 : Hid (262144 < (Pk.body rs).length + 4 → Pk.pack rs = ([], 0, 2)) := fun h => by unfold Pk.pack; rw [if_neg (fun e => e hq), if_pos h]
    have HP2 : Hid (¬ 262144 < (Pk.body rs).length + 4 → Pk.pack rs = (Pk.body rs ++ Pk.sum4 (Pk.body rs), 0, 0)) := fun h => by unfold Pk.pack; rw [if_neg (fun e => e hq), if_neg h]
    have hc0 : Cn.check6 rs = (0, 0) := Cn.check6_zero hq
    rw [hc0] at K6
    have HRB : Hid (∀ k, k ≤ rs.length → (Pk.head ++ Ref.uint rs.length ++ (rs.take k).flatMap Pk.rb).length ≤ 200000000) := fun k hk => by
      have h1 := rbs_len (rs.take k) (fun r hr => right_rok (hall r (List.mem_of_mem_take hr)))
      have h2 : (rs.take k).length ≤ k := List.length_take_le _ _
      have h3 := uint_len rs.length
      have h4 : Pk.head.length = 5 := rfl
      rw [List.length_append, List.length_append, h4]
      omega
    have KY : Hid (∀ W k, Below w.heap.size w W → k < rs.length → ∃ b off, v = .slice (some ⟨b, off, none⟩) rs.length cap ∧ RecAt W b (off + k * 8) (rs.getD k Cn.none) ∧ RecFit (rs.getD k Cn.none) ∧ Cn.right (rs.getD k Cn.none) = 0) := fun W k hW hk => by
      obtain ⟨b, off, cap', he, _, _, hc⟩ := (hv.below hW).place (by omega)
      rw [hve] at he
      simp only [Value.slice.injEq, true_and] at he
      obtain ⟨rfl, rfl⟩ := he
      exact ⟨b, off, hve, hc k hk, (hv.below hW).fit hk, hall _ (by simp [List.getD, hk])⟩
    have HST : Hid (∀ k, k < rs.length → (rs.take (k + 1)).flatMap Pk.rb = (rs.take k).flatMap Pk.rb ++ Pk.rb (rs.getD k Cn.none)) := fun k hk => flatMap_step Pk.rb rs k Cn.none hk
    have HBD : Hid (Pk.body rs = Pk.head ++ Ref.uint rs.length ++ rs.flatMap Pk.rb) := rfl
    have KU : Hid (∀ W, Calls Tryz.prog 17 #[.int .i64 (rs.length : Int)] W fun e w' => ∃ v, e = .returned v ∧ Own w' W.heap.size v (Ref.uint rs.length) ∧ Below W.heap.size W w') := fun W => refUint_any _ W (by omega)
    have N1 : Hid (Ref.uint (rs.length : Int) ≠ []) := uint_ne (by omega)
    have KS : Hid (∀ W u, Sl W u (Pk.body rs) → Calls Tryz.prog 19 #[u] W fun e w' => e = .returned (.int .u32 (Crc.sum (Pk.body rs) : Nat)) ∧ w' = W) := fun W u h => refSum_any u _ W h
    have HSL : Hid (Byt (Pk.body rs) → Crc.sum (Pk.body rs) < 4294967296) := fun h => Crc.sum_lt _ h
    have HH : Hid (∀ W : World, Own (W.alloc (.cells #[.int .u8 101, .int .u8 110, .int .u8 100, .int .u8 111, .int .u8 1] 5)) W.heap.size (.slice (some ⟨W.heap.size, 0, none⟩) 5 5) Pk.head) := fun W => bytes_new W W.heap.size W.heap.size 5 rfl Pk.head _ (Nat.le_refl _) rfl rfl head_byt (by omega)
    have KB : Hid (∀ (W : World) (r : Rec) (vt : Value), Cn.right r = 0 → RecFit r → Sk .i32 W vt r.to → Calls Tryz.prog 18 #[recV r vt] W fun e w' => ∃ v, e = .returned v ∧ Own w' W.heap.size v (Pk.rb r) ∧ Below W.heap.size W w') := fun W r vt h1 h2 h3 => refBytes_any vt W h1 h2 h3
    have hul := uint_len rs.length
    have hsum := HSL
    generalize hck : Pk.pack rs = q at *
    subst hve
    clear hv hck hc0 hall hq hsum
    go_enter Tryz.func7, Tryz.ntmps7
    go_wp2_with fail
    refine (unhide K6).mono ?_
    rintro e W0 ⟨rfl, hb0⟩
    clear K6
    have HB0 := hide hb0
    have hown := (unhide HH) W0
    have hbel : Below W0.heap.size W0 (W0.alloc (.cells #[.int .u8 101, .int .u8 110, .int .u8 100, .int .u8 111, .int .u8 1] 5)) := (Below.refl _ _).alloc (Nat.le_refl _) _
    have hhl : Pk.head.length = 5 := rfl
    clear HH hb0
    go_wp2_with fail
    refine ((unhide KU) _).mono ?_
    rintro e2 w2 ⟨v2, rfl, hown2, hb2⟩
    generalize hbv : Value.slice (some ⟨W0.heap.size, 0, none⟩) 5 5 = bv0 at *
    have hB2 := bthen hbel hb2
    have hm := hown.below hb2
    have hsw := hB2.size
    rcases hown2.sl.src with ⟨hnil, _⟩ | ⟨ad2, cap2, rfl, hsrc⟩
    · exact absurd hnil (unhide N1)
    have HS := hide hsrc
    have H1 := hide (ints_one .u8 (Ref.uint (rs.length : Int)))
    have hmp : ((Ref.uint (rs.length : Int)).map (Value.int .u8)).length = (Ref.uint (rs.length : Int)).length := List.length_map _
    have HM := hide hm.2.2
    have hyl := hul
    have HMORE : Hid (∀ v5 w5, w5.ownsRow W0.heap.size 5 1 v5 (Pk.head.length + (Ref.uint (rs.length : Int)).length) (Pk.head.map (Value.int .u8) ++ (Ref.uint (rs.length : Int)).map (Value.int .u8)) → w2.grownBy w5 bv0.ownBlock → Own w5 W0.heap.size v5 (Pk.head ++ (Ref.uint (rs.length : Int))) ∧ Below W0.heap.size W0 w5) := fun v5 w5 hr hg => own_more hB2 hm hown2.1 (by omega) hr hg
    clear hown hown2 hsrc hbel hb2 hm hB2  KU N1 hbv
    generalize (Ref.uint (rs.length : Int)).map (Value.int .u8) = us at *
    generalize (Ref.uint (rs.length : Int)).length = mm at *
    go_wp2_with (at_builtin; refine wpList_append_own _ rfl (.tmp 21) (.tmp 24) 24 rfl W0.heap.size 5 i0 (.int .u8 0) 1 1 Tryz.underlying24 hi hz0 hz1 hz2 rfl (by decide) _ _ _ rfl (unhide HM) ad2 mm cap2 us rfl (by rw [hmp]; simp) (unhide HS) (unhide H1) (by unfold maxLen; omega) (by omega) (by omega) ?_)
    intro v4 w4 hr4 hg4 _
    obtain ⟨hown, hbel⟩ := (unhide HMORE) v4 w4 hr4 hg4
    clear HMORE HM HS H1 hr4 hg4 hmp hsw
    clear hhl
    go_wp2
    go_loopw [7, 8] (fun bv iv wr => ∃ k : Nat, iv = .int .i64 k ∧ k ≤ rs.length ∧ ∃ xs, xs = Pk.head ++ Ref.uint rs.length ++ (rs.take k).flatMap Pk.rb ∧ Own wr W0.heap.size bv xs ∧ Below W0.heap.size W0 wr) (fun _ iv _ => rs.length - (intOf iv).toNat)
    case atStart => exact ⟨0, rfl, by omega, _, by simp, hown, hbel⟩
    case round =>
      obtain ⟨k, rfl, hk, xs, hxs, hown', hbel'⟩ := hrel
      clear hown hbel
      have hown := hown'
      have hbel := hbel'
      clear hown' hbel'
      by_cases hlt : k < rs.length
      · obtain ⟨b, off, he, hA, hfit, hright⟩ := (unhide KY) _ k (bthen (unhide HB0) hbel) hlt
        obtain ⟨e1, e2, e3⟩ := Value.slice.inj he
        clear e2 e3 he
        subst e1
        have hxl : xs.length ≤ 200000000 := by rw [hxs]; exact (unhide HRB) k (by omega)
        have HNX : Hid (Pk.head ++ Ref.uint rs.length ++ (rs.take (k + 1)).flatMap Pk.rb = xs ++ Pk.rb (rs.getD k Cn.none)) := by
          show _ = _
          rw [(unhide HST) k hlt, hxs, List.append_assoc (Pk.head ++ Ref.uint (rs.length : Int))]
        obtain ⟨y0, y1, y2, y3, ⟨va, y4, ska⟩, y5, y6, y7⟩ := hA
        have KY1 := hide ((unhide KB) _ (rs.getD k Cn.none) va hright hfit ska)
        unfold recV at KY1
        have hyn : Hid (Pk.rb (rs.getD k Cn.none) ≠ []) := fun e => by unfold Pk.rb at e; cases e
        have hyb := rb_len (right_rok hright)
        obtain ⟨so, sc, rfl, _, _⟩ := ska.shape
        clear ska hfit hright hxs HRB HST KY KB
        generalize Pk.rb (rs.getD k Cn.none) = zs at *
        generalize (rs.getD k Cn.none).kind = kd at *
        generalize (rs.getD k Cn.none).lo = lo at *
        generalize (rs.getD k Cn.none).hi = hi2 at *
        generalize (rs.getD k Cn.none).n = n at *
        generalize (rs.getD k Cn.none).name = nm at *
        generalize (rs.getD k Cn.none).other = ot at *
        generalize (rs.getD k Cn.none).wt = wt at *
        generalize (rs.getD k Cn.none).to.length = tl at *
        go_wp2_with fail
        refine (unhide KY1).mono ?_
        rintro e2 w2 ⟨v2, rfl, hown2, hb2⟩
        have hB2 := bthen hbel hb2
        have hm := hown.below hb2
        have hsw := hB2.size
        rcases hown2.sl.src with ⟨hnil, _⟩ | ⟨ad2, cap2, rfl, hsrc⟩
        · exact absurd hnil (unhide hyn)
        have HS := hide hsrc
        have H1 := hide (ints_one .u8 (zs))
        have hmp : ((zs).map (Value.int .u8)).length = (zs).length := List.length_map _
        have HM := hide hm.2.2
        have hyl := hyb
        have HMORE : Hid (∀ v5 w5, w5.ownsRow W0.heap.size 5 1 v5 (xs.length + (zs).length) (xs.map (Value.int .u8) ++ (zs).map (Value.int .u8)) → w2.grownBy w5 u7.ownBlock → Own w5 W0.heap.size v5 (xs ++ (zs)) ∧ Below W0.heap.size W0 w5) := fun v5 w5 hr hg => own_more hB2 hm hown2.1 (by omega) hr hg
        clear hown hown2 hsrc hbel hb2 hm hB2  KY1 hyn y0 y1 y2 y3 y4 y5 y6 y7
        generalize (zs).map (Value.int .u8) = us at *
        generalize (zs).length = mm at *
        go_wp2_with (at_builtin; refine wpList_append_own _ rfl (.tmp 32) (.tmp 37) 24 rfl W0.heap.size 5 i0 (.int .u8 0) 1 1 Tryz.underlying24 hi hz0 hz1 hz2 rfl (by decide) _ _ _ rfl (unhide HM) ad2 mm cap2 us rfl (by rw [hmp]; simp) (unhide HS) (unhide H1) (by unfold maxLen; omega) (by omega) (by omega) ?_)
        intro v4 w4 hr4 hg4 _
        obtain ⟨hown, hbel⟩ := (unhide HMORE) v4 w4 hr4 hg4
        clear HMORE HM HS H1 hr4 hg4 hmp hsw
        go_wp2
        go_roundw
        case rel => exact ⟨k + 1, by go_num, by omega, _, (unhide HNX).symm, hown, hbel⟩
        case measure => simp [intOf]; omega
      · obtain rfl : k = rs.length := by omega
        rw [List.take_of_length_le (Nat.le_refl _)] at hxs
        have hxb : xs = Pk.body rs := hxs.trans (unhide HBD).symm
        have hxl : xs.length ≤ 200000000 := by rw [hxs]; have := (unhide HRB) rs.length (Nat.le_refl _); rw [List.take_of_length_le (Nat.le_refl _)] at this; exact this
        rw [← hxb] at HP1 HP2 HSL KS
        have KS1 := hide ((unhide KS) _ _ hown.sl)
        have hsl := (unhide HSL) hown.1
        have HS4 : Hid (Pk.sum4 xs = Pk.le4 (Crc.sum xs)) := rfl
        have HEND : Hid (∀ W u ys, Own W W0.heap.size u ys → Below W0.heap.size W0 W → Own W w.heap.size u ys ∧ Below w.heap.size w W) := fun W u ys h1 h2 => ⟨h1.lower (unhide HB0).size, bthen (unhide HB0) h2⟩
        clear KS HSL hxs hxb HRB HST HBD KY KB
        generalize Crc.sum xs = s at *
        rw [unhide HS4] at HP2
        clear HS4
        go_wp2_with fail
        refine (unhide KS1).mono ?_
        rintro e w5 ⟨rfl, hw5⟩
        subst hw5
        clear KS1
        go_wp2
        go_loopw [7, 10] (fun bw jv wi => ∃ j : Nat, jv = .int .i64 j ∧ j ≤ 4 ∧ Own wi W0.heap.size bw (xs ++ (Pk.le4 s).take j) ∧ Below W0.heap.size W0 wi) (fun _ jv _ => 4 - (intOf jv).toNat)
        case atStart => exact ⟨0, rfl, by omega, by simpa using hown, hbel⟩
        case round =>
          obtain ⟨j, rfl, hj, hown', hbel'⟩ := hrel
          clear hown hbel
          by_cases hlt : j < 4
          · have hand := fun x h0 h1 => land255 x h0 h1
            have hs0 : (0 : Int) ≤ (s : Int) := by omega
            have hs1 : (s : Int) < 4294967296 := by omega
            have HM : Hid (∀ o, (wr.alloc o).ownsRow W0.heap.size 5 1 u7 (xs ++ (Pk.le4 s).take j).length ((xs ++ (Pk.le4 s).take j).map (Value.int .u8))) := fun o => hown'.2.2.alloc o
            have HL4 : Hid ((xs ++ (Pk.le4 s).take j).length = xs.length + j) := by show _ = _; rw [List.length_append, List.length_take]; have : (Pk.le4 s).length = 4 := rfl; omega
            have hj4 : j = 0 ∨ j = 1 ∨ j = 2 ∨ j = 3 := by omega
            have hqm : (xs ++ (Pk.le4 s).take j).length ≤ 200000004 := by rw [unhide HL4]; omega
            generalize hqs : xs ++ (Pk.le4 s).take j = qs at *
            have HQS := hide hqs
            have hsz := hbel'.size
            have HMO : Hid (∀ v8 w8 c o, 0 ≤ c ∧ c ≤ 255 → w8.ownsRow W0.heap.size 5 1 v8 (qs.length + 1) (qs.map (Value.int .u8) ++ [.int .u8 c]) → (wr.alloc o).grownBy w8 u7.ownBlock → Own w8 W0.heap.size v8 (qs ++ [c]) ∧ Below W0.heap.size W0 w8) := fun v8 w8 c o hc hr hg => own_snoc hbel' hown' (by omega) hc hr hg
            clear hqs hlt hj hown' hbel' HL4
            rcases hj4 with rfl | rfl | rfl | rfl
            · have HN : Hid (qs ++ [(s : Int) % 256] = xs ++ (Pk.le4 s).take 1) := by
                show _ = _
                rw [← unhide HQS, show (s : Int) % 256 = ((s % 256 : Nat) : Int) by omega, List.append_assoc]
                rfl
              go_wp2_with (at_builtin; refine wpList_append_own _ rfl (.tmp 45) (.tmp 53) 24 rfl W0.heap.size 5 i0 (.int .u8 0) 1 1 Tryz.underlying24 hi hz0 hz1 hz2 rfl (by decide) _ _ _ rfl ((unhide HM) _) ⟨wr.heap.size, 0, none⟩ 1 1 [_] rfl rfl (one_new _ _ _ _ rfl) (int_one _ _) (by unfold maxLen; omega) (by omega) (by simp; omega) ?_)
              intro v8 w8 hr8 hg8 _
              have R := (unhide HMO) v8 w8 _ _ (by omega) hr8 hg8
              rw [unhide HN] at R
              have HR := hide R
              clear R hr8 hg8 HMO HM HQS HN hand
              go_wp2
              go_roundw
              case rel => exact ⟨1, by go_num, by omega, (unhide HR).1, (unhide HR).2⟩
              case measure => simp [intOf]
            · have HN : Hid (qs ++ [(s : Int) / 256 % 256] = xs ++ (Pk.le4 s).take 2) := by
                show _ = _
                rw [← unhide HQS, show (s : Int) / 256 % 256 = ((s / 256 % 256 : Nat) : Int) by omega, List.append_assoc]
                rfl
              go_wp2_with (at_builtin; refine wpList_append_own _ rfl (.tmp 45) (.tmp 53) 24 rfl W0.heap.size 5 i0 (.int .u8 0) 1 1 Tryz.underlying24 hi hz0 hz1 hz2 rfl (by decide) _ _ _ rfl ((unhide HM) _) ⟨wr.heap.size, 0, none⟩ 1 1 [_] rfl rfl (one_new _ _ _ _ rfl) (int_one _ _) (by unfold maxLen; omega) (by omega) (by simp; omega) ?_)
              intro v8 w8 hr8 hg8 _
              have R := (unhide HMO) v8 w8 _ _ (by omega) hr8 hg8
              rw [show bits BinOp.and IntKind.u32 ((s : Int) / 256) 255 % 256 = (s : Int) / 256 % 256 by rw [land255 _ (by omega) (by omega)]; omega] at R
              rw [unhide HN] at R
              have HR := hide R
              clear R hr8 hg8 HMO HM HQS HN hand
              go_wp2
              go_roundw
              case rel => exact ⟨2, by go_num, by omega, (unhide HR).1, (unhide HR).2⟩
              case measure => simp [intOf]
            · have HN : Hid (qs ++ [(s : Int) / 65536 % 256] = xs ++ (Pk.le4 s).take 3) := by
                show _ = _
                rw [← unhide HQS, show (s : Int) / 65536 % 256 = ((s / 65536 % 256 : Nat) : Int) by omega, List.append_assoc]
                rfl
              go_wp2_with (at_builtin; refine wpList_append_own _ rfl (.tmp 45) (.tmp 53) 24 rfl W0.heap.size 5 i0 (.int .u8 0) 1 1 Tryz.underlying24 hi hz0 hz1 hz2 rfl (by decide) _ _ _ rfl ((unhide HM) _) ⟨wr.heap.size, 0, none⟩ 1 1 [_] rfl rfl (one_new _ _ _ _ rfl) (int_one _ _) (by unfold maxLen; omega) (by omega) (by simp; omega) ?_)
              intro v8 w8 hr8 hg8 _
              have R := (unhide HMO) v8 w8 _ _ (by omega) hr8 hg8
              rw [show bits BinOp.and IntKind.u32 ((s : Int) / 65536) 255 % 256 = (s : Int) / 65536 % 256 by rw [land255 _ (by omega) (by omega)]; omega] at R
              rw [unhide HN] at R
              have HR := hide R
              clear R hr8 hg8 HMO HM HQS HN hand
              go_wp2
              go_roundw
              case rel => exact ⟨3, by go_num, by omega, (unhide HR).1, (unhide HR).2⟩
              case measure => simp [intOf]
            · have HN : Hid (qs ++ [(s : Int) / 16777216 % 256] = xs ++ (Pk.le4 s).take 4) := by
                show _ = _
                rw [← unhide HQS, show (s : Int) / 16777216 % 256 = ((s / 16777216 % 256 : Nat) : Int) by omega, List.append_assoc]
                rfl
              go_wp2_with (at_builtin; refine wpList_append_own _ rfl (.tmp 45) (.tmp 53) 24 rfl W0.heap.size 5 i0 (.int .u8 0) 1 1 Tryz.underlying24 hi hz0 hz1 hz2 rfl (by decide) _ _ _ rfl ((unhide HM) _) ⟨wr.heap.size, 0, none⟩ 1 1 [_] rfl rfl (one_new _ _ _ _ rfl) (int_one _ _) (by unfold maxLen; omega) (by omega) (by simp; omega) ?_)
              intro v8 w8 hr8 hg8 _
              have R := (unhide HMO) v8 w8 _ _ (by omega) hr8 hg8
              rw [show bits BinOp.and IntKind.u32 ((s : Int) / 16777216) 255 % 256 = (s : Int) / 16777216 % 256 by rw [land255 _ (by omega) (by omega)]; omega] at R
              rw [unhide HN] at R
              have HR := hide R
              clear R hr8 hg8 HMO HM HQS HN hand
              go_wp2
              go_roundw
              case rel => exact ⟨4, by go_num, by omega, (unhide HR).1, (unhide HR).2⟩
              case measure => simp [intOf]
          · obtain rfl : j = 4 := by omega
            have e4 : (Pk.le4 s).take 4 = Pk.le4 s := rfl
            rw [e4] at hown'
            have hl4 : (xs ++ Pk.le4 s).length = xs.length + 4 := by rw [List.length_append]; rfl
            obtain ⟨bo, bc, hbe, _, _⟩ := hown'.sl.shape
            have HR := hide ((unhide HEND) _ _ _ hown' hbel')
            subst hbe
            clear hown' hbel' HEND
            rw [hl4] at HR ⊢
            clear hl4 e4 hlt hxl hj
            generalize xs ++ Pk.le4 s = ys at *
            generalize xs.length + 4 = m at *
            by_cases hbig : 262144 < m
            · obtain rfl := (unhide HP1) hbig
              clear HP1 HP2
              go_wp2
              go_ret3
              exact ⟨.slice none 0 0, rfl, ⟨Byt.nil, by simp, World.ownsRow_nil _ _ _ _⟩, (unhide HR).2⟩
            · obtain rfl := (unhide HP2) hbig
              clear HP1 HP2
              go_wp2
              go_ret3
              exact ⟨_, rfl, (unhide HR).1, (unhide HR).2⟩
  · have hp : Pk.pack rs = ([], (Cn.check6 rs).1, (Cn.check6 rs).2) := by unfold Pk.pack; rw [if_pos hq]
    rw [hp]
    generalize Cn.check6 rs = q at *
    obtain ⟨q1, q2⟩ := q
    have d2 : (q2 != 0) = true := by simpa using hq
    subst hve
    clear hv hp
    go_enter Tryz.func7, Tryz.ntmps7
    go_wp2_with fail
    refine (unhide K6).mono ?_
    rintro e w1 ⟨rfl, hb1⟩
    clear K6
    go_wp2
    go_ret3
    exact ⟨.slice none 0 0, rfl, ⟨Byt.nil, by simp, World.ownsRow_nil _ _ _ _⟩, hb1⟩
end Go.Proofs.YtdnkfnccbmbpaaaGreatDoor
