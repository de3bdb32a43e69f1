/- The contracts of floats as bytes. -/
import Derived.Test.YtmdbdfigpccbpaaMake
import Derived.Test.YtmdbdfigpccbpaaRoom
import Derived.Laws.Externs
namespace Go.Proofs.Ytmdbdfigpccbpaa.Ref
/-- Byte i of a float's bits. -/
def byteAt (u i : Nat) : Int := ((u / 2 ^ (8 * i) % 256 : Nat) : Int)
/-- The first k bytes, then noughts. -/
def flp (u k : Nat) : List Int := (List.range 8).map fun i => if i < k then byteAt u i else 0
/-- The eight bytes. -/
def fl (u : Nat) : List Int := (List.range 8).map (byteAt u)
/-- The bits of bytes. -/
def fval : List Int → Int
  | [] => 0
  | c :: r => c + 256 * fval r
/-- ReadFloat. -/
def rf (zs : List Int) (at_ : Int) : Int × Int × Int :=
  if at_ < 0 ∨ (zs.length : Int) < at_ then (0, 0, 1)
  else if (zs.length : Int) - at_ < 8 then (0, 0, 10)
  else (fval ((zs.drop at_.toNat).take 8), at_ + 8, 0)

theorem flp_zero (u : Nat) : flp u 0 = [0, 0, 0, 0, 0, 0, 0, 0] := by simp [flp, List.range, List.range.loop]
theorem flp_eight (u : Nat) : flp u 8 = fl u := by
  unfold flp fl
  apply List.map_congr_left
  intro i hi
  simp at hi
  simp [hi]
theorem flp_length (u k : Nat) : (flp u k).length = 8 := by simp [flp]
theorem fl_length (u : Nat) : (fl u).length = 8 := by simp [fl]
theorem flp_step (u k : Nat) : (flp u k).set k (byteAt u k) = flp u (k + 1) := by
  apply List.ext_getElem
  · simp [flp]
  · intro i h1 h2
    simp only [List.getElem_set, flp, List.getElem_map, List.getElem_range]
    by_cases h : k = i
    · subst h; simp
    · rw [if_neg h]
      by_cases h3 : i < k
      · rw [if_pos h3, if_pos (by omega)]
      · rw [if_neg h3, if_neg (by omega)]
theorem fl_take (u k : Nat) (hk : k < 8) : (fl u).take (k + 1) = (fl u).take k ++ [byteAt u k] := by
  rw [List.take_succ_eq_append_getElem (by rw [fl_length]; exact hk)]
  simp [fl]
theorem byteAt_bound (u i : Nat) : 0 ≤ byteAt u i ∧ byteAt u i ≤ 255 := by unfold byteAt; omega
theorem byteAt_int (u i : Nat) : (u : Int) / 2 ^ (8 * i) % 256 = byteAt u i := by
  unfold byteAt; simp

theorem fval_snoc (l : List Int) (c : Int) : fval (l ++ [c]) = fval l + c * 256 ^ l.length := by
  induction l with
  | nil => simp [fval]
  | cons a r ih =>
    simp only [List.cons_append, fval, ih, List.length_cons, Int.pow_succ]
    generalize (256 : Int) ^ r.length = p
    rw [Int.mul_add, ← Int.add_assoc, Int.mul_comm 256 (c * p), Int.mul_assoc]
theorem fval_bound (l : List Int) (h : ∀ z ∈ l, 0 ≤ z ∧ z ≤ 255) : 0 ≤ fval l ∧ fval l < 256 ^ l.length := by
  induction l with
  | nil => simp [fval]
  | cons a r ih =>
    have h1 := h a (by simp)
    have h2 := ih (fun z hz => h z (by simp [hz]))
    simp only [fval, List.length_cons, Int.pow_succ]
    omega
theorem pow256 (k : Nat) : (256 : Int) ^ k = 2 ^ (8 * k) := by
  rw [Int.pow_mul]; rfl
theorem pow56' (n : Nat) (h : n ≤ 7) : (1 : Int) ≤ 2 ^ (8 * n) ∧ (2 : Int) ^ (8 * n) ≤ 2 ^ 56 := by
  have h1 := Nat.pow_le_pow_right (n := 2) (by decide) (show 8 * n ≤ 56 by omega)
  have h2 := Nat.two_pow_pos (8 * n)
  constructor
  · exact_mod_cast h2
  · exact_mod_cast h1
end Go.Proofs.Ytmdbdfigpccbpaa.Ref
namespace Go.Proofs.Ytmdbdfigpccbpaa
open Go.RowKit

theorem flp_byt (u k : Nat) : Byt (Ref.flp u k) := by
  intro z hz
  obtain ⟨i, _, rfl⟩ := List.mem_map.1 hz
  have := Ref.byteAt_bound u i
  split <;> omega
theorem fl_byt (u : Nat) : Byt (Ref.fl u) := by
  rw [← Ref.flp_eight]; exact flp_byt u 8

theorem run_bits (b : Nat) (w : World) : (callFunc 35 #[.float .f64 b]).run Try.prog w = .ok (.value (.int .u64 b)) w := by
  rw [run_callFunc_extern (e := Extern.MathFloatBits.float64bits) Try.func35 (by kernel_rfl) (by kernel_rfl) (by kernel_rfl) (by kernel_rfl)]
  rfl
theorem run_frombits (n : Int) (w : World) : (callFunc 34 #[.int .u64 n]).run Try.prog w = .ok (.value (.float .f64 n.toNat)) w := by
  rw [run_callFunc_extern (e := Extern.MathFloatBits.float64frombits) Try.func34 (by kernel_rfl) (by kernel_rfl) (by kernel_rfl) (by kernel_rfl)]
  rfl

theorem apiFloat_any (n : Int) (w : World) : Calls Try.prog 24 #[.int .u64 n] w fun e w' => e = .returned (.float .f64 n.toNat) ∧ w' = w := by
  have h := run_frombits n
  go_enter Try.func24, Try.ntmps24
  go_wp2
  go_ret
  exact ⟨rfl, rfl⟩
theorem apiBits_any (b : Nat) (w : World) : Calls Try.prog 26 #[.float .f64 b] w fun e w' => e = .returned (.int .u64 b) ∧ w' = w := by
  have h := run_bits b
  go_enter Try.func26, Try.ntmps26
  go_wp2
  go_ret
  exact ⟨rfl, rfl⟩

theorem float_round {w wr : World} {u k : Nat} {x : Int} (hx : x = Ref.byteAt u k) (hown : wr.ownsRow w.heap.size 5 1 (.slice (some ⟨w.heap.size, 0, none⟩) 8 8) 8 ((Ref.flp u k).map (Value.int .u8))) (hb : Below w.heap.size w wr) :
    (wr.setCell ⟨w.heap.size, k, none⟩ (.int .u8 x)).ownsRow w.heap.size 5 1 (.slice (some ⟨w.heap.size, 0, none⟩) 8 8) 8 ((Ref.flp u (k + 1)).map (Value.int .u8)) ∧ Below w.heap.size w (wr.setCell ⟨w.heap.size, k, none⟩ (.int .u8 x)) := by
  subst hx
  have h := (hown.stored k (.int .u8 (Ref.byteAt u k))).1
  rw [← List.map_set, Ref.flp_step] at h
  exact ⟨h, hb.setCell (Nat.le_refl _) _⟩

set_option maxHeartbeats 1000000 in
theorem float_any (b : Nat) (w : World) :
    Calls Try.prog 23 #[.float .f64 b] w fun e w' => ∃ v, e = .returned v ∧ Own w' w.heap.size v (Ref.fl b) ∧ Below w.heap.size w w' := by
  have hmk : ∀ w : World, (Instr.makeSlice 22 (.int .i64 8) (.int .i64 8)).run Try.prog w = .ok (.slice (some ⟨w.heap.size, 0, none⟩) 8 8) (w.alloc (.cells #[.int .u8 0, .int .u8 0, .int .u8 0, .int .u8 0, .int .u8 0, .int .u8 0, .int .u8 0, .int .u8 0] 5)) := fun _ => by kernel_rfl
  have HB := fun w => hide (apiBits_any b w)
  have hst : (w.alloc (.cells #[.int .u8 0, .int .u8 0, .int .u8 0, .int .u8 0, .int .u8 0, .int .u8 0, .int .u8 0, .int .u8 0] 5)).ownsRow w.heap.size 5 1 (.slice (some ⟨w.heap.size, 0, none⟩) 8 8) 8 ((Ref.flp b 0).map (Value.int .u8)) := by
    rw [Ref.flp_zero]
    exact World.ownsRow_lit w _ 8 (Nat.le_refl _) (by decide) rfl
  go_enter Try.func23, Try.ntmps23
  go_wp2_with fail
  refine (unhide (HB _)).mono ?_
  rintro e w1 ⟨rfl, rfl⟩
  clear HB hmk
  go_wp2
  go_loopw [11] (fun i wr => ∃ k : Nat, k ≤ 8 ∧ i = .int .i64 k ∧ wr.ownsRow w.heap.size 5 1 (.slice (some ⟨w.heap.size, 0, none⟩) 8 8) 8 ((Ref.flp b k).map (Value.int .u8)) ∧ Below w.heap.size w wr) (fun i _ => 8 - (intOf i).toNat)
  case atStart => exact ⟨0, by omega, rfl, hst, (Below.refl _ _).alloc (Nat.le_refl _) _⟩
  case round =>
    obtain ⟨k, hk, rfl, hown, hb⟩ := hrel
    by_cases h8 : k < 8
    · have hc : ∃ z, wr.cell? ⟨w.heap.size, k, none⟩ = some (.int .u8 z) := by
        rw [hown.cellAt k (by omega)]
        exact ⟨(Ref.flp b k)[k]'(by rw [Ref.flp_length]; omega), by simp [Ref.flp_length, h8]⟩
      obtain ⟨z, hc⟩ := hc
      have hf := hown.frozenAt k
      have R := float_round (Ref.byteAt_int b k) hown hb
      go_wp2
      go_roundw
      case rel => exact ⟨k + 1, by omega, by go_num, R.1, R.2⟩
      case measure => simp [intOf]; omega
    · obtain rfl : k = 8 := by omega
      have R : Own wr w.heap.size (.slice (some ⟨w.heap.size, 0, none⟩) 8 8) (Ref.fl b) := by
        rw [Ref.flp_eight] at hown
        refine ⟨fl_byt b, by rw [Ref.fl_length]; decide, ?_⟩
        rw [Ref.fl_length]
        exact hown
      clear hown hst
      go_wp2
      go_ret
      exact ⟨_, rfl, R, hb⟩

theorem wraps_u64 (n : Int) (h₀ : 0 ≤ n) (h₁ : n < 2 ^ 64) : IntKind.u64.wrap n = n := IntWalk.u64_in n ⟨by omega, by omega⟩

theorem grp_u64 (c : Int) (k : Nat) (hk : k ≤ 7) (h0 : 0 ≤ c) (h1 : c ≤ 255) : IntKind.u64.wrap (c * 2 ^ (8 * k)) = c * 2 ^ (8 * k) := by
  have hp := Ref.pow56' k hk
  generalize (2 : Int) ^ (8 * k) = q at *
  have g1 : 0 ≤ c * q := Int.mul_nonneg (by omega) (by omega)
  have g2 : c * q ≤ 255 * q := Int.mul_le_mul_of_nonneg_right (by omega) (by omega)
  exact wraps_u64 _ g1 (by omega)

/-- One byte more. -/
theorem fval_or (l : List Int) (c : Int) (h : l.length ≤ 7) (hl : Byt l) (h0 : 0 ≤ c) (h1 : c ≤ 255) : bits .or .u64 (Ref.fval l) (c * 2 ^ (8 * l.length)) = Ref.fval (l ++ [c]) := by
  have hb := Ref.fval_bound l hl
  have hp := Ref.pow56' l.length h
  rw [Ref.fval_snoc, Ref.pow256, bits_or_comm]
  rw [Ref.pow256] at hb
  generalize hq : (2 : Int) ^ (8 * l.length) = q at *
  have g1 : 0 ≤ c * q := Int.mul_nonneg (by omega) (by omega)
  have g2 : c * q ≤ 255 * q := Int.mul_le_mul_of_nonneg_right (by omega) (by omega)
  rw [bits_join .u64 64 (by decide) wraps_u64 (8 * l.length) (c * q) (Ref.fval l) g1 (by rw [hq]; exact Int.mul_emod_left _ _) (by omega) hb.1 (by rw [hq]; exact hb.2) (by omega), Int.add_comm]

/-- What ReadFloat answers. -/
def RfPost (w : World) (r : Int × Int × Int) (e : Ending) (w' : World) : Prop :=
  e = .returned (.tuple #[.float .f64 r.1.toNat, .int .i64 r.2.1, .int .i64 r.2.2]) ∧ w' = w

theorem RfPost.mk {w : World} {r : Int × Int × Int} {a b c : Int} (h : r = (a, b, c)) : RfPost w r (.returned (.tuple #[.float .f64 a.toNat, .int .i64 b, .int .i64 c])) w := by
  subst h; exact ⟨rfl, rfl⟩
theorem RfPost.no {w : World} {r : Int × Int × Int} {c : Int} (h : r = (0, 0, c)) : RfPost w r (.returned (.tuple #[.float .f64 0, .int .i64 0, .int .i64 c])) w := RfPost.mk h

set_option maxHeartbeats 1000000 in
theorem readFloat_any (v : Value) (zs : List Int) (at_ : Int) (w : World) (hs : Sl w v zs) :
    Calls Try.prog 21 #[v, .int .i64 at_] w (RfPost w (Ref.rf zs at_)) := by
  have hl := hs.len
  by_cases hbad : at_ < 0 ∨ (zs.length : Int) < at_
  · have HF := RfPost.no (w := w) (show Ref.rf zs at_ = (0, 0, 1) by simp [Ref.rf, hbad])
    have HP := hide (from_no v zs at_ w hs hbad)
    generalize Ref.rf zs at_ = r at *
    clear hbad
    obtain ⟨ao, cap, rfl, hc1, hc2⟩ := hs.shape
    go_enter Try.func21, Try.ntmps21
    go_wp2_with fail
    refine (unhide HP).mono ?_
    rintro e w' ⟨rfl, rfl⟩
    go_wp2
    go_ret3
    exact HF
  · have h0 : 0 ≤ at_ := by omega
    have h1 : at_ ≤ zs.length := by omega
    have HP := hide (from_yes v zs at_ w hs h0 h1)
    have hdl : (zs.drop at_.toNat).length = zs.length - at_.toNat := by simp
    by_cases hsh : (zs.length : Int) - at_ < 8
    · have HF := RfPost.no (w := w) (show Ref.rf zs at_ = (0, 0, 10) by rw [Ref.rf, if_neg hbad, if_pos hsh])
      generalize Ref.rf zs at_ = r at *
      generalize zs.drop at_.toNat = ys at *
      have HL := hide hdl
      clear hbad hdl
      obtain ⟨ao, cap, rfl, hc1, hc2⟩ := hs.shape
      go_enter Try.func21, Try.ntmps21
      go_wp2_with fail
      refine (unhide HP).mono ?_
      rintro e w' ⟨v', rfl, rfl, hv'⟩
      have H2 := hide (piece_no v' ys 0 8 w' hv' (by omega) (by omega) (by have := unhide HL; omega))
      obtain ⟨ao2, cap2, rfl, hd1, hd2⟩ := hv'.shape
      go_wp2_with fail
      refine (unhide H2).mono ?_
      rintro e w'' ⟨rfl, rfl⟩
      go_wp2
      go_ret3
      exact HF
    · have HF := RfPost.mk (w := w) (show Ref.rf zs at_ = (Ref.fval ((zs.drop at_.toNat).take 8), at_ + 8, 0) by rw [Ref.rf, if_neg hbad, if_neg hsh])
      generalize Ref.rf zs at_ = r at *
      generalize zs.drop at_.toNat = ys at *
      have HL := hide hdl
      clear hbad hdl
      obtain ⟨ao, cap, rfl, hc1, hc2⟩ := hs.shape
      go_enter Try.func21, Try.ntmps21
      go_wp2_with fail
      refine (unhide HP).mono ?_
      rintro e w' ⟨v', rfl, rfl, hv'⟩
      have H2 := hide (piece_yes v' ys 0 8 w' hv' (by omega) (by omega) (by omega) (by have := unhide HL; omega))
      obtain ⟨ao2, cap2, rfl, hd1, hd2⟩ := hv'.shape
      go_wp2_with fail
      refine (unhide H2).mono ?_
      rintro e w'' ⟨v2, rfl, rfl, hv2⟩
      have hxl : ((ys.drop (0 : Int).toNat).take (8 : Int).toNat).length = 8 := by
        have := unhide HL
        simp; omega
      have e0 : (ys.drop (0 : Int).toNat).take (8 : Int).toNat = ys.take 8 := rfl
      rw [e0] at hv2 hxl
      generalize ys.take 8 = xs at *
      obtain ⟨b, off, cap3, rfl, hk1, hk2, hc⟩ := hv2.place (by omega)
      have hbt := hv2.1
      have HX := hide hxl
      rw [hxl] at hk1 hc hv2 ⊢
      clear HP H2 HL e0 hxl
      go_wp2
      go_loop [9, 31] (fun u i => ∃ k : Nat, k ≤ 8 ∧ i = .int .i64 k ∧ u = .int .u64 (Ref.fval (xs.take k))) (fun _ i => 8 - (intOf i).toNat)
      case atStart => exact ⟨0, by omega, rfl, rfl⟩
      case round =>
        obtain ⟨k, hk, rfl, rfl⟩ := hrel
        by_cases h8 : k < 8
        · have hcell := hc k h8
          have hr := hbt.at k
          have hts := take_snoc xs k (by have := unhide HX; omega)
          have htl : (xs.take k).length = k := by have := unhide HX; simp; omega
          have hor := fval_or (xs.take k) (xs[k]?.getD 0) (by omega) (fun z hz => hbt z (List.mem_of_mem_take hz)) hr.1 hr.2
          rw [← hts, htl] at hor
          simp only [List.getD_eq_getElem?_getD] at hcell
          have hgrp := grp_u64 (xs[k]?.getD 0) k (by omega) hr.1 hr.2
          have HS := hide hor
          clear hor hts htl hc
          generalize xs[k]?.getD 0 = c at *
          go_wp2
          go_round
          case rel => exact ⟨k + 1, by omega, by go_num, val_int (by rw [← unhide HS])⟩
          case measure => simp [intOf]; omega
        · obtain rfl : k = 8 := by omega
          have HV := fun w => hide (apiFloat_any (Ref.fval xs) w)
          have e8 : xs.take 8 = xs := List.take_of_length_le (by have := unhide HX; omega)
          rw [e8] at *
          clear hc e8
          go_wp2_with fail
          refine (unhide (HV _)).mono ?_
          rintro e w3 ⟨rfl, rfl⟩
          go_wp2
          go_ret3
          exact HF
end Go.Proofs.Ytmdbdfigpccbpaa
