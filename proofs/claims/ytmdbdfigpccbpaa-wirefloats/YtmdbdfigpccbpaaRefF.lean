/- The contracts of the document's own Float and ReadFloat. -/
import Derived.Test.YtmdbdfigpccbpaaFloat
import Derived.Test.YtmdbdfigpccbpaaRefC
namespace Go.Proofs.Ytmdbdfigpccbpaa
open Go.RowKit

theorem and255 (x : Int) (h0 : 0 ≤ x) (h1 : x < 2 ^ 64) : bits .and .u64 x 255 = x % 256 := bits_mask .u64 64 (by decide) wraps_u64 8 (by decide) x h0 h1

set_option maxHeartbeats 1000000 in
theorem refFloat_any (u : Nat) (hu : u < 18446744073709551616) (w : World) :
    Calls Try.prog 25 #[.int .u64 (u : Int)] w fun e w' => ∃ v, e = .returned v ∧ Own w' w.heap.size v (Ref.fl u) ∧ Below w.heap.size w w' := by
  obtain ⟨i0, hi, hz0, hz1, hz2⟩ := info_parts Try.info5
  go_enter Try.func25, Try.ntmps25
  go_wp2
  go_loopw [3, 4] (fun v i wr => ∃ k : Nat, k ≤ 8 ∧ i = .int .i64 k ∧ wr.ownsRow w.heap.size 5 1 v ((Ref.fl u).take k).length (((Ref.fl u).take k).map (Value.int .u8)) ∧ Below w.heap.size w wr) (fun _ i _ => 8 - (intOf i).toNat)
  case atStart => exact ⟨0, by omega, rfl, World.ownsRow_nil _ _ _ _, Below.refl _ _⟩
  case round =>
    obtain ⟨k, hk, rfl, hown, hb⟩ := hrel
    have hsz := hb.size
    by_cases h8 : k < 8
    · have htl : ((Ref.fl u).take k).length = k := by simp [Ref.fl_length]; omega
      have hts := Ref.fl_take u k h8
      have hq : (0 : Int) ≤ (u : Int) / 2 ^ (8 * k) ∧ (u : Int) / 2 ^ (8 * k) < 2 ^ 64 := by
        have e : (u : Int) / 2 ^ (8 * k) = ((u / 2 ^ (8 * k) : Nat) : Int) := by simp
        rw [e]
        have hd := Nat.div_le_self u (2 ^ (8 * k))
        generalize u / 2 ^ (8 * k) = d at *
        omega
      have hm := and255 _ hq.1 hq.2
      rw [Ref.byteAt_int] at hm
      have hbb := Ref.byteAt_bound u k
      have HT := hide hts
      rw [htl] at hown
      clear hts htl hq
      generalize Ref.byteAt u k = c at *
      go_wp2_with (first
        | (at_builtin; refine wpList_append_own _ rfl _ _ 22 rfl w.heap.size 5 i0 (.int .u8 0) 1 1 Try.underlying22 hi hz0 hz1 hz2 rfl (by decide) _ _ _ rfl (hown.alloc _) ⟨wr.heap.size, 0, none⟩ 1 1 [.int .u8 c] rfl rfl (cell_one_new _ _ _) (one_u8 _) (by unfold maxLen; omega) (by omega) (by simp; omega) ?_)
        | go_in)
      intro v' w1 hown' hgrow _
      have R : w1.ownsRow w.heap.size 5 1 v' ((Ref.fl u).take (k + 1)).length (((Ref.fl u).take (k + 1)).map (Value.int .u8)) := by
        rw [unhide HT]
        have htl : ((Ref.fl u).take k).length = k := by simp [Ref.fl_length]; omega
        rw [List.length_append, htl]
        simpa using hown'
      have R2 : Below w.heap.size w w1 := (hb.alloc hsz _).grown hgrow (by simp; omega) (fun k hk => (hown.lt k hk).1)
      clear hown' hgrow hown hb HT
      go_wp2
      go_roundw
      case rel => exact ⟨k + 1, by omega, by go_num, R, R2⟩
      case measure => simp [intOf]; omega
    · have R : Own wr w.heap.size u3 (Ref.fl u) := by
        rw [List.take_of_length_le (by rw [Ref.fl_length]; omega)] at hown
        exact ⟨fl_byt u, by rw [Ref.fl_length]; decide, hown⟩
      clear hown
      go_wp2
      go_ret
      exact ⟨_, rfl, R, hb⟩

/-- What the document's ReadFloat answers. -/
def RuPost (w : World) (r : Int × Int × Int) (e : Ending) (w' : World) : Prop :=
  e = .returned (.tuple #[.int .u64 r.1, .int .i64 r.2.1, .int .i64 r.2.2]) ∧ w' = w

theorem RuPost.mk {w : World} {r : Int × Int × Int} {a b c : Int} (h : r = (a, b, c)) : RuPost w r (.returned (.tuple #[.int .u64 a, .int .i64 b, .int .i64 c])) w := by
  subst h; exact ⟨rfl, rfl⟩

set_option maxHeartbeats 1000000 in
theorem refReadFloat_any (v : Value) (zs : List Int) (at_ : Int) (w : World) (hs : Sl w v zs) :
    Calls Try.prog 22 #[v, .int .i64 at_] w (RuPost w (Ref.rf zs at_)) := by
  have hl := hs.len
  by_cases hbad : at_ < 0 ∨ (zs.length : Int) < at_
  · have HF := RuPost.mk (w := w) (show Ref.rf zs at_ = (0, 0, 1) by simp [Ref.rf, hbad])
    generalize Ref.rf zs at_ = r at *
    obtain ⟨ao, cap, rfl, hc1, hc2⟩ := hs.shape
    rcases hbad with h | h
    · go_enter Try.func22, Try.ntmps22
      go_wp2
      go_ret3
      exact HF
    · have h0 : decide (at_ < 0) = false := by simp; omega
      go_enter Try.func22, Try.ntmps22
      go_wp2
      go_ret3
      exact HF
  · have h0 : 0 ≤ at_ := by omega
    have h1 : at_ ≤ zs.length := by omega
    obtain ⟨a, rfl⟩ := Int.eq_ofNat_of_zero_le h0
    have h2 : decide ((a : Int) < 0) = false := by simp
    have h3 : decide ((zs.length : Int) < a) = false := by simp; omega
    by_cases hsh : (zs.length : Int) - a < 8
    · have HF := RuPost.mk (w := w) (show Ref.rf zs a = (0, 0, 10) by rw [Ref.rf, if_neg hbad, if_pos hsh])
      generalize Ref.rf zs a = r at *
      clear hbad
      obtain ⟨ao, cap, rfl, hc1, hc2⟩ := hs.shape
      go_enter Try.func22, Try.ntmps22
      go_wp2
      go_ret3
      exact HF
    · have HF := RuPost.mk (w := w) (show Ref.rf zs a = (Ref.fval ((zs.drop a).take 8), (a : Int) + 8, 0) by rw [Ref.rf, if_neg hbad, if_neg hsh, Int.toNat_natCast])
      generalize Ref.rf zs a = r at *
      clear hbad
      obtain ⟨b, off, cap, rfl, hc1, hc2, hc⟩ := hs.place (by omega)
      have hbt := hs.1
      go_enter Try.func22, Try.ntmps22
      go_wp2
      go_loop [7, 8] (fun u i => ∃ k : Nat, k ≤ 8 ∧ i = .int .i64 k ∧ u = .int .u64 (Ref.fval ((zs.drop a).take k))) (fun _ i => 8 - (intOf i).toNat)
      case atStart => exact ⟨0, by omega, rfl, rfl⟩
      case round =>
        obtain ⟨k, hk, rfl, rfl⟩ := hrel
        by_cases h8 : k < 8
        · have hcell := hc (a + k) (by omega)
          have hr := hbt.at (a + k)
          have hdl : k < (zs.drop a).length := by simp; omega
          have hts := take_snoc (zs.drop a) k hdl
          have htl : ((zs.drop a).take k).length = k := by simp; omega
          rw [List.getElem?_drop] at hts
          have hor := fval_or ((zs.drop a).take k) (zs[a + k]?.getD 0) (by omega) (fun z hz => hbt z (List.mem_of_mem_drop (List.mem_of_mem_take hz))) hr.1 hr.2
          rw [← hts, htl] at hor
          simp only [List.getD_eq_getElem?_getD] at hcell
          have hgrp := grp_u64 (zs[a + k]?.getD 0) k (by omega) hr.1 hr.2
          have HS := hide hor
          clear hor hts htl hc hdl
          generalize zs[a + k]?.getD 0 = c at *
          go_wp2
          go_round
          case rel => exact ⟨k + 1, by omega, by go_num, val_int (by rw [← unhide HS])⟩
          case measure => simp [intOf]; omega
        · obtain rfl : k = 8 := by omega
          clear hc
          generalize (zs.drop a).take 8 = xs at *
          go_wp2
          go_ret3
          exact HF
end Go.Proofs.Ytmdbdfigpccbpaa
