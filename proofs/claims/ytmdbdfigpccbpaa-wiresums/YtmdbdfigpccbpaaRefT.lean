/- The contracts of the document's own Text and ReadText. -/
import Derived.Test.YtmdbdfigpccbpaaTextMake
import Derived.Test.YtmdbdfigpccbpaaText
import Derived.Test.YtmdbdfigpccbpaaRefC
import Derived.Lib.ConvBytes
namespace Go.Proofs.Ytmdbdfigpccbpaa
open Go.RowKit

theorem below_bytesWorld (w : World) (e : TypeId) (s : ByteArray) : Below w.heap.size w (Lib.bytesWorld w e s) := by
  refine ⟨?_, ?_, ?_, ?_, fun k hk => Lib.bytesWorld_at_old w e s k hk⟩
  · rfl
  · rfl
  · rfl
  · rw [Lib.bytesWorld_size]; omega
theorem own_below {w w' : World} {base : Nat} {v : Value} {zs : List Int} (h : Own w base v zs) (hb : Below w.heap.size w w') : Own w' base v zs := by
  refine ⟨h.1, h.2.1, h.2.2.kept (row := none) ⟨hb.os, hb.tape, hb.output, hb.size, fun k hk _ => hb.block k hk⟩ ?_⟩
  cases h' : v.ownBlock with
  | none => exact .inl rfl
  | some k => exact .inr (by simp)

set_option maxHeartbeats 400000 in
theorem refText_any (s : ByteArray) (w : World) (hs : s.size ≤ 140737488351232) :
    Calls Try.prog 20 #[.string s] w fun e w' => ∃ v, e = .returned v ∧ Own w' w.heap.size v (Ref.uint s.size ++ nums s) ∧ Below w.heap.size w w' := by
  obtain ⟨i0, hi, hz0, hz1, hz2⟩ := info_parts Try.info5
  have hul := uint_len s.size
  go_enter Try.func20, Try.ntmps20
  go_wp2_with fail
  refine (refUint_any _ _ (by omega)).mono ?_
  rintro e w1 ⟨v, rfl, hown, hb⟩
  have hcv := Lib.run_convert_string_bytes (P := Try.prog) w1 9 22 5 s Try.underlying9 Try.underlying22 Try.underlying5
  have hb2 := below_bytesWorld w1 5 s
  have hown2 := own_below hown hb2
  have hc2 : ∀ j u, ((nums s).map (Value.int .u8))[j]? = some u → (Lib.bytesWorld w1 5 s).cell? ((⟨w1.heap.size, 0, none⟩ : Addr).add j) = some u := by
    intro j u hj
    have hjl : j < s.size := by
      rcases Nat.lt_or_ge j s.size with h | h
      · exact h
      · rw [List.getElem?_eq_none (by rw [List.length_map, nums_length]; exact h)] at hj; cases hj
    have hplain : (⟨w1.heap.size, 0, none⟩ : Addr).add j = ⟨w1.heap.size, j, none⟩ := by unfold Addr.add; split <;> simp_all
    have hjd : j < s.data.toList.length := by simpa using hjl
    rw [hplain, Lib.bytesWorld_cell w1 5 s j hjl]
    simp [nums, List.getElem?_eq_getElem hjd] at hj
    subst hj
    simp [List.getD, hjl]
  have hB := bthen hb hb2
  have hsz := hB.size
  have ho := hown2.2.2
  generalize Lib.bytesWorld w1 5 s = wb at *
  generalize grownCap w1 s.size 0 5 = cp at *
  clear hown
  go_wp2_with (at_builtin; refine wpList_append_own _ rfl (.tmp 5) (.tmp 7) 22 rfl w.heap.size 5 i0 (.int .u8 0) 1 1 Try.underlying22 hi hz0 hz1 hz2 rfl (by decide) _ _ _ rfl ho ⟨w1.heap.size, 0, none⟩ s.size cp ((nums s).map (Value.int .u8)) rfl (by simp [nums_length]) hc2 (ints_one _) (by unfold maxLen; omega) (by omega) hsz ?_)
  intro v2 w2 hown3 hg2 _
  have R : Own w2 w.heap.size v2 (Ref.uint s.size ++ nums s) ∧ Below w.heap.size w w2 := by
    refine ⟨⟨hown2.1.append (nums_byt s), by simp [nums_length]; omega, ?_⟩, hB.grown hg2 hsz (fun k hk => (ho.lt k hk).1)⟩
    rw [List.length_append, nums_length, List.map_append]
    exact hown3
  clear hown3 hg2 ho hown2
  go_wp2
  go_ret
  exact ⟨_, rfl, R⟩

set_option maxHeartbeats 1000000 in
theorem refReadText_any (v : Value) (zs : List Int) (at_ most : Int) (w : World) (hs : Sl w v zs) :
    Calls Try.prog 18 #[v, .int .i64 at_, .int .i64 most] w (RtPost w (Ref.rt zs at_ most)) := by
  have hl := hs.len
  have HR := hide (refReadUint_any v zs at_ w hs)
  by_cases hbad : at_ < 0 ∨ (zs.length : Int) < at_
  · have HF := RtPost.no (w := w) (show Ref.rt zs at_ most = ([], 0, 1) by simp [Ref.rt, Ref.rd, hbad])
    generalize Ref.rt zs at_ most = r at *
    obtain ⟨ao, cap, rfl, hc1, hc2⟩ := hs.shape
    clear HR
    rcases hbad with h | h
    · go_enter Try.func18, Try.ntmps18
      go_wp2
      go_ret3
      exact HF
    · have h0 : decide (at_ < 0) = false := by simp; omega
      have h1 : decide ((zs.length : Int) < at_) = true := by simp; omega
      go_enter Try.func18, Try.ntmps18
      go_wp2
      go_ret3
      exact HF
  · have g0 : decide (at_ < 0) = false := by simp; omega
    have g1 : decide ((zs.length : Int) < at_) = false := by simp; omega
    by_cases hm : most < 0
    · have HF := RtPost.no (w := w) (show Ref.rt zs at_ most = ([], 0, 1) by simp [Ref.rt, hm])
      generalize Ref.rt zs at_ most = r at *
      obtain ⟨ao, cap, rfl, hc1, hc2⟩ := hs.shape
      clear HR hbad
      go_enter Try.func18, Try.ntmps18
      go_wp2
      go_ret3
      exact HF
    · clear hbad
      by_cases he : (Ref.rd zs at_).2.2 ≠ 0
      · have HF := RtPost.no (w := w) (show Ref.rt zs at_ most = ([], 0, (Ref.rd zs at_).2.2) by simp [Ref.rt, hm, he])
        have hne : ((Ref.rd zs at_).2.2 != 0) = true := by simpa using he
        generalize Ref.rt zs at_ most = r at *
        clear he
        obtain ⟨ao, cap, rfl, hc1, hc2⟩ := hs.shape
        generalize Ref.rd zs at_ = q at *
        go_enter Try.func18, Try.ntmps18
        go_wp2_with fail
        refine (unhide HR).mono ?_
        rintro e w' ⟨rfl, rfl⟩
        go_wp2
        go_ret3
        exact HF
      · have he' : (Ref.rd zs at_).2.2 = 0 := by simpa using he
        have hok := rd_ok zs at_ he'
        have hne : ((Ref.rd zs at_).2.2 != 0) = false := by simp [he']
        have hrt : Ref.rt zs at_ most = if most < (Ref.rd zs at_).1 then ([], 0, 3) else if (zs.length : Int) - (Ref.rd zs at_).2.1 < (Ref.rd zs at_).1 then ([], 0, 10) else ((zs.drop (Ref.rd zs at_).2.1.toNat).take (Ref.rd zs at_).1.toNat, (Ref.rd zs at_).2.1 + (Ref.rd zs at_).1, 0) := by
          rw [Ref.rt, if_neg hm, if_neg he]
        clear he he'
        have HT := hide hrt
        clear hrt
        generalize Ref.rd zs at_ = q at *
        by_cases hmany : most < q.1
        · have HF := RtPost.no (w := w) ((unhide HT).trans (if_pos hmany))
          generalize Ref.rt zs at_ most = r at *
          obtain ⟨ao, cap, rfl, hc1, hc2⟩ := hs.shape
          clear HT
          go_enter Try.func18, Try.ntmps18
          go_wp2_with fail
          refine (unhide HR).mono ?_
          rintro e w' ⟨rfl, rfl⟩
          go_wp2
          go_ret3
          exact HF
        · have HT2 := hide ((unhide HT).trans (if_neg hmany))
          by_cases hsh : (zs.length : Int) - q.2.1 < q.1
          · have HF := RtPost.no (w := w) ((unhide HT2).trans (if_pos hsh))
            generalize Ref.rt zs at_ most = r at *
            obtain ⟨ao, cap, rfl, hc1, hc2⟩ := hs.shape
            clear HT HT2
            go_enter Try.func18, Try.ntmps18
            go_wp2_with fail
            refine (unhide HR).mono ?_
            rintro e w' ⟨rfl, rfl⟩
            go_wp2
            go_ret3
            exact HF
          · have HF := RtPost.mk (w := w) ((unhide HT2).trans (if_neg hsh))
            generalize Ref.rt zs at_ most = r at *
            obtain ⟨ao, cap, rfl, hc1, hc2⟩ := hs.shape
            have hcut := hs.cut (l := q.2.1.toNat) (h := (q.2.1 + q.1).toNat) (m := cap) (by omega) (by omega) (by omega) (by omega)
            rw [show (q.2.1 + q.1).toNat - q.2.1.toNat = q.1.toNat by omega] at hcut
            generalize (zs.drop q.2.1.toNat).take q.1.toNat = ys at *
            have hcv := hcut.conv
            generalize strOfNums ys = sy at *
            clear HT HT2 hcut
            by_cases hcp : cap = q.2.1.toNat
            · subst hcp
              simp only [sliced, if_true, Nat.sub_self] at hcv
              go_enter Try.func18, Try.ntmps18
              go_wp2_with fail
              refine (unhide HR).mono ?_
              rintro e w' ⟨rfl, rfl⟩
              go_wp2
              go_ret3
              exact HF
            · simp only [sliced, hcp, if_false, Nat.mul_one] at hcv
              go_enter Try.func18, Try.ntmps18
              go_wp2_with fail
              refine (unhide HR).mono ?_
              rintro e w' ⟨rfl, rfl⟩
              go_wp2
              go_ret3
              exact HF
end Go.Proofs.Ytmdbdfigpccbpaa
