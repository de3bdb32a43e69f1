import Derived.Test.YtdnkfnccbmbpaaaGreatDoorGl8
import Derived.Laws.Externs
/- The contracts of floats as bytes. -/
namespace Go.Proofs.YtdnkfnccbmbpaaaGreatDoor.Wi.Ref
/-- Byte i of a float's bits. -/
def byteAt (u i : Nat) : Int := ((u / 2 ^ (8 * i) % 256 : Nat) : Int)
/-- The first k bytes, then noughts. -/
def flp (u k : Nat) : List Int := (List.range 8).map fun i => if i < k then byteAt u i else 0
/-- The eight bytes. -/
def fl (u : Nat) : List Int := (List.range 8).map (byteAt u)
/-- The bits of bytes. -/
def fval : List Int → Int
  | [] => 0
  | c :: r => c + 256 * fval r
/-- ReadFloat. -/
def rf (zs : List Int) (at_ : Int) : Int × Int × Int :=
  if at_ < 0 ∨ (zs.length : Int) < at_ then (0, 0, 1)
  else if (zs.length : Int) - at_ < 8 then (0, 0, 10)
  else (fval ((zs.drop at_.toNat).take 8), at_ + 8, 0)

theorem flp_zero (u : Nat) : flp u 0 = [0, 0, 0, 0, 0, 0, 0, 0] := by simp [flp, List.range, List.range.loop]
theorem flp_eight (u : Nat) : flp u 8 = fl u := by
  unfold flp fl
  apply List.map_congr_left
  intro i hi
  simp at hi
  simp [hi]
theorem flp_length (u k : Nat) : (flp u k).length = 8 := by simp [flp]
theorem fl_length (u : Nat) : (fl u).length = 8 := by simp [fl]
theorem flp_step (u k : Nat) : (flp u k).set k (byteAt u k) = flp u (k + 1) := by
  apply List.ext_getElem
  · simp [flp]
  · intro i h1 h2
    simp only [List.getElem_set, flp, List.getElem_map, List.getElem_range]
    by_cases h : k = i
    · subst h; simp
    · rw [if_neg h]
      by_cases h3 : i < k
      · rw [if_pos h3, if_pos (by omega)]
      · rw [if_neg h3, if_neg (by omega)]
theorem fl_take (u k : Nat) (hk : k < 8) : (fl u).take (k + 1) = (fl u).take k ++ [byteAt u k] := by
  rw [List.take_succ_eq_append_getElem (by rw [fl_length]; exact hk)]
  simp [fl]
theorem byteAt_bound (u i : Nat) : 0 ≤ byteAt u i ∧ byteAt u i ≤ 255 := by unfold byteAt; omega
theorem byteAt_int (u i : Nat) : (u : Int) / 2 ^ (8 * i) % 256 = byteAt u i := by
  unfold byteAt; simp

theorem fval_snoc (l : List Int) (c : Int) : fval (l ++ [c]) = fval l + c * 256 ^ l.length := by
  induction l with
  | nil => simp [fval]
  | cons a r ih =>
    simp only [List.cons_append, fval, ih, List.length_cons, Int.pow_succ]
    generalize (256 : Int) ^ r.length = p
    rw [Int.mul_add, ← Int.add_assoc, Int.mul_comm 256 (c * p), Int.mul_assoc]
theorem fval_bound (l : List Int) (h : ∀ z ∈ l, 0 ≤ z ∧ z ≤ 255) : 0 ≤ fval l ∧ fval l < 256 ^ l.length := by
  induction l with
  | nil => simp [fval]
  | cons a r ih =>
    have h1 := h a (by simp)
    have h2 := ih (fun z hz => h z (by simp [hz]))
    simp only [fval, List.length_cons, Int.pow_succ]
    omega
theorem pow256 (k : Nat) : (256 : Int) ^ k = 2 ^ (8 * k) := by
  rw [Int.pow_mul]; rfl
theorem pow56' (n : Nat) (h : n ≤ 7) : (1 : Int) ≤ 2 ^ (8 * n) ∧ (2 : Int) ^ (8 * n) ≤ 2 ^ 56 := by
  have h1 := Nat.pow_le_pow_right (n := 2) (by decide) (show 8 * n ≤ 56 by omega)
  have h2 := Nat.two_pow_pos (8 * n)
  constructor
  · exact_mod_cast h2
  · exact_mod_cast h1
end Go.Proofs.YtdnkfnccbmbpaaaGreatDoor.Wi.Ref
namespace Go.Proofs.YtdnkfnccbmbpaaaGreatDoor.Wi
open Go.RowKit

theorem flp_byt (u k : Nat) : Byt (Ref.flp u k) := by
  intro z hz
  obtain ⟨i, _, rfl⟩ := List.mem_map.1 hz
  have := Ref.byteAt_bound u i
  split <;> omega
theorem fl_byt (u : Nat) : Byt (Ref.fl u) := by
  rw [← Ref.flp_eight]; exact flp_byt u 8

theorem run_bits (b : Nat) (w : World) : (callFunc 59 #[.float .f64 b]).run Tryz.prog w = .ok (.value (.int .u64 b)) w := by
  rw [run_callFunc_extern (e := Extern.MathFloatBits.float64bits) Tryz.func59 (by kernel_rfl) (by kernel_rfl) (by kernel_rfl) (by kernel_rfl)]
  rfl
theorem run_frombits (n : Int) (w : World) : (callFunc 113 #[.int .u64 n]).run Tryz.prog w = .ok (.value (.float .f64 n.toNat)) w := by
  rw [run_callFunc_extern (e := Extern.MathFloatBits.float64frombits) Tryz.func113 (by kernel_rfl) (by kernel_rfl) (by kernel_rfl) (by kernel_rfl)]
  rfl

theorem apiFloat_any (n : Int) (w : World) : Calls Tryz.prog 98 #[.int .u64 n] w fun e w' => e = .returned (.float .f64 n.toNat) ∧ w' = w := by
  have h := run_frombits n
  go_enter Tryz.func98, Tryz.ntmps98
  go_wp2
  go_ret
  exact ⟨rfl, rfl⟩
theorem apiBits_any (b : Nat) (w : World) : Calls Tryz.prog 33 #[.float .f64 b] w fun e w' => e = .returned (.int .u64 b) ∧ w' = w := by
  have h := run_bits b
  go_enter Tryz.func33, Tryz.ntmps33
  go_wp2
  go_ret
  exact ⟨rfl, rfl⟩

theorem float_round {w wr : World} {u k : Nat} {x : Int} (hx : x = Ref.byteAt u k) (hown : wr.ownsRow w.heap.size 5 1 (.slice (some ⟨w.heap.size, 0, none⟩) 8 8) 8 ((Ref.flp u k).map (Value.int .u8))) (hb : Below w.heap.size w wr) :
    (wr.setCell ⟨w.heap.size, k, none⟩ (.int .u8 x)).ownsRow w.heap.size 5 1 (.slice (some ⟨w.heap.size, 0, none⟩) 8 8) 8 ((Ref.flp u (k + 1)).map (Value.int .u8)) ∧ Below w.heap.size w (wr.setCell ⟨w.heap.size, k, none⟩ (.int .u8 x)) := by
  subst hx
  have h := (hown.stored k (.int .u8 (Ref.byteAt u k))).1
  rw [← List.map_set, Ref.flp_step] at h
  exact ⟨h, hb.setCell (Nat.le_refl _) _⟩

set_option maxHeartbeats 1000000 in
theorem float_any (b : Nat) (w : World) :
    Calls Tryz.prog 89 #[.float .f64 b] w fun e w' => ∃ v, e = .returned v ∧ Own w' w.heap.size v (Ref.fl b) ∧ Below w.heap.size w w' := by
  have hmk : ∀ w : World, (Instr.makeSlice 24 (.int .i64 8) (.int .i64 8)).run Tryz.prog w = .ok (.slice (some ⟨w.heap.size, 0, none⟩) 8 8) (w.alloc (.cells #[.int .u8 0, .int .u8 0, .int .u8 0, .int .u8 0, .int .u8 0, .int .u8 0, .int .u8 0, .int .u8 0] 5)) := fun _ => by kernel_rfl
  have HB := fun w => hide (apiBits_any b w)
  have hst : (w.alloc (.cells #[.int .u8 0, .int .u8 0, .int .u8 0, .int .u8 0, .int .u8 0, .int .u8 0, .int .u8 0, .int .u8 0] 5)).ownsRow w.heap.size 5 1 (.slice (some ⟨w.heap.size, 0, none⟩) 8 8) 8 ((Ref.flp b 0).map (Value.int .u8)) := by
    rw [Ref.flp_zero]
    exact World.ownsRow_lit w _ 8 (Nat.le_refl _) (by decide) rfl
  go_enter Tryz.func89, Tryz.ntmps89
  go_wp2_with fail
  refine (unhide (HB _)).mono ?_
  rintro e w1 ⟨rfl, rfl⟩
  clear HB hmk
  go_wp2
  go_loopw [11] (fun i wr => ∃ k : Nat, k ≤ 8 ∧ i = .int .i64 k ∧ wr.ownsRow w.heap.size 5 1 (.slice (some ⟨w.heap.size, 0, none⟩) 8 8) 8 ((Ref.flp b k).map (Value.int .u8)) ∧ Below w.heap.size w wr) (fun i _ => 8 - (intOf i).toNat)
  case atStart => exact ⟨0, by omega, rfl, hst, (Below.refl _ _).alloc (Nat.le_refl _) _⟩
  case round =>
    obtain ⟨k, hk, rfl, hown, hb⟩ := hrel
    by_cases h8 : k < 8
    · have hc : ∃ z, wr.cell? ⟨w.heap.size, k, none⟩ = some (.int .u8 z) := by
        rw [hown.cellAt k (by omega)]
        exact ⟨(Ref.flp b k)[k]'(by rw [Ref.flp_length]; omega), by simp [Ref.flp_length, h8]⟩
      obtain ⟨z, hc⟩ := hc
      have hf := hown.frozenAt k
      have R := float_round (Ref.byteAt_int b k) hown hb
      go_wp2
      go_roundw
      case rel => exact ⟨k + 1, by omega, by go_num, R.1, R.2⟩
      case measure => simp [intOf]; omega
    · obtain rfl : k = 8 := by omega
      have R : Own wr w.heap.size (.slice (some ⟨w.heap.size, 0, none⟩) 8 8) (Ref.fl b) := by
        rw [Ref.flp_eight] at hown
        refine ⟨fl_byt b, by rw [Ref.fl_length]; decide, ?_⟩
        rw [Ref.fl_length]
        exact hown
      clear hown hst
      go_wp2
      go_ret
      exact ⟨_, rfl, R, hb⟩

theorem wraps_u64 (n : Int) (h₀ : 0 ≤ n) (h₁ : n < 2 ^ 64) : IntKind.u64.wrap n = n := IntWalk.u64_in n ⟨by omega, by omega⟩

theorem grp_u64 (c : Int) (k : Nat) (hk : k ≤ 7) (h0 : 0 ≤ c) (h1 : c ≤ 255) : IntKind.u64.wrap (c * 2 ^ (8 * k)) = c * 2 ^ (8 * k) := by
  have hp := Ref.pow56' k hk
  generalize (2 : Int) ^ (8 * k) = q at *
  have g1 : 0 ≤ c * q := Int.mul_nonneg (by omega) (by omega)
  have g2 : c * q ≤ 255 * q := Int.mul_le_mul_of_nonneg_right (by omega) (by omega)
  exact wraps_u64 _ g1 (by omega)

/-- One byte more. -/
theorem fval_or (l : List Int) (c : Int) (h : l.length ≤ 7) (hl : Byt l) (h0 : 0 ≤ c) (h1 : c ≤ 255) : bits .or .u64 (Ref.fval l) (c * 2 ^ (8 * l.length)) = Ref.fval (l ++ [c]) := by
  have hb := Ref.fval_bound l hl
  have hp := Ref.pow56' l.length h
  rw [Ref.fval_snoc, Ref.pow256, bits_or_comm]
  rw [Ref.pow256] at hb
  generalize hq : (2 : Int) ^ (8 * l.length) = q at *
  have g1 : 0 ≤ c * q := Int.mul_nonneg (by omega) (by omega)
  have g2 : c * q ≤ 255 * q := Int.mul_le_mul_of_nonneg_right (by omega) (by omega)
  rw [bits_join .u64 64 (by decide) wraps_u64 (8 * l.length) (c * q) (Ref.fval l) g1 (by rw [hq]; exact Int.mul_emod_left _ _) (by omega) hb.1 (by rw [hq]; exact hb.2) (by omega), Int.add_comm]

/-- What ReadFloat answers. -/
def RfPost (w : World) (r : Int × Int × Int) (e : Ending) (w' : World) : Prop :=
  e = .returned (.tuple #[.float .f64 r.1.toNat, .int .i64 r.2.1, .int .i64 r.2.2]) ∧ w' = w

theorem RfPost.mk {w : World} {r : Int × Int × Int} {a b c : Int} (h : r = (a, b, c)) : RfPost w r (.returned (.tuple #[.float .f64 a.toNat, .int .i64 b, .int .i64 c])) w := by
  subst h; exact ⟨rfl, rfl⟩
theorem RfPost.no {w : World} {r : Int × Int × Int} {c : Int} (h : r = (0, 0, c)) : RfPost w r (.returned (.tuple #[.float .f64 0, .int .i64 0, .int .i64 c])) w := RfPost.mk h

set_option maxHeartbeats 1000000 in
theorem readFloat_any (v : Value) (zs : List Int) (at_ : Int) (w : World) (hs : Sl w v zs) :
    Calls Tryz.prog 91 #[v, .int .i64 at_] w (RfPost w (Ref.rf zs at_)) := by
  have hl := hs.len
  by_cases hbad : at_ < 0 ∨ (zs.length : Int) < at_
  · have HF := RfPost.no (w := w) (show Ref.rf zs at_ = (0, 0, 1) by simp [Ref.rf, hbad])
    have HP := hide (from_no v zs at_ w hs hbad)
    generalize Ref.rf zs at_ = r at *
    clear hbad
    obtain ⟨ao, cap, rfl, hc1, hc2⟩ := hs.shape
    go_enter Tryz.func91, Tryz.ntmps91
    go_wp2_with fail
    refine (unhide HP).mono ?_
    rintro e w' ⟨rfl, rfl⟩
    go_wp2
    go_ret3
    exact HF
  · have h0 : 0 ≤ at_ := by omega
    have h1 : at_ ≤ zs.length := by omega
    have HP := hide (from_yes v zs at_ w hs h0 h1)
    have hdl : (zs.drop at_.toNat).length = zs.length - at_.toNat := by simp
    by_cases hsh : (zs.length : Int) - at_ < 8
    · have HF := RfPost.no (w := w) (show Ref.rf zs at_ = (0, 0, 10) by rw [Ref.rf, if_neg hbad, if_pos hsh])
      generalize Ref.rf zs at_ = r at *
      generalize zs.drop at_.toNat = ys at *
      have HL := hide hdl
      clear hbad hdl
      obtain ⟨ao, cap, rfl, hc1, hc2⟩ := hs.shape
      go_enter Tryz.func91, Tryz.ntmps91
      go_wp2_with fail
      refine (unhide HP).mono ?_
      rintro e w' ⟨v', rfl, rfl, hv'⟩
      have H2 := hide (piece_no v' ys 0 8 w' hv' (by omega) (by omega) (by have := unhide HL; omega))
      obtain ⟨ao2, cap2, rfl, hd1, hd2⟩ := hv'.shape
      go_wp2_with fail
      refine (unhide H2).mono ?_
      rintro e w'' ⟨rfl, rfl⟩
      go_wp2
      go_ret3
      exact HF
    · have HF := RfPost.mk (w := w) (show Ref.rf zs at_ = (Ref.fval ((zs.drop at_.toNat).take 8), at_ + 8, 0) by rw [Ref.rf, if_neg hbad, if_neg hsh])
      generalize Ref.rf zs at_ = r at *
      generalize zs.drop at_.toNat = ys at *
      have HL := hide hdl
      clear hbad hdl
      obtain ⟨ao, cap, rfl, hc1, hc2⟩ := hs.shape
      go_enter Tryz.func91, Tryz.ntmps91
      go_wp2_with fail
      refine (unhide HP).mono ?_
      rintro e w' ⟨v', rfl, rfl, hv'⟩
      have H2 := hide (piece_yes v' ys 0 8 w' hv' (by omega) (by omega) (by omega) (by have := unhide HL; omega))
      obtain ⟨ao2, cap2, rfl, hd1, hd2⟩ := hv'.shape
      go_wp2_with fail
      refine (unhide H2).mono ?_
      rintro e w'' ⟨v2, rfl, rfl, hv2⟩
      have hxl : ((ys.drop (0 : Int).toNat).take (8 : Int).toNat).length = 8 := by
        have := unhide HL
        simp; omega
      have e0 : (ys.drop (0 : Int).toNat).take (8 : Int).toNat = ys.take 8 := rfl
      rw [e0] at hv2 hxl
      generalize ys.take 8 = xs at *
      obtain ⟨b, off, cap3, rfl, hk1, hk2, hc⟩ := hv2.place (by omega)
      have hbt := hv2.1
      have HX := hide hxl
      rw [hxl] at hk1 hc hv2 ⊢
      clear HP H2 HL e0 hxl
      go_wp2
      go_loop [9, 31] (fun u i => ∃ k : Nat, k ≤ 8 ∧ i = .int .i64 k ∧ u = .int .u64 (Ref.fval (xs.take k))) (fun _ i => 8 - (intOf i).toNat)
      case atStart => exact ⟨0, by omega, rfl, rfl⟩
      case round =>
        obtain ⟨k, hk, rfl, rfl⟩ := hrel
        by_cases h8 : k < 8
        · have hcell := hc k h8
          have hr := hbt.at k
          have hts := take_snoc xs k (by have := unhide HX; omega)
          have htl : (xs.take k).length = k := by have := unhide HX; simp; omega
          have hor := fval_or (xs.take k) (xs[k]?.getD 0) (by omega) (fun z hz => hbt z (List.mem_of_mem_take hz)) hr.1 hr.2
          rw [← hts, htl] at hor
          simp only [List.getD_eq_getElem?_getD] at hcell
          have hgrp := grp_u64 (xs[k]?.getD 0) k (by omega) hr.1 hr.2
          have HS := hide hor
          clear hor hts htl hc
          generalize xs[k]?.getD 0 = c at *
          go_wp2
          go_round
          case rel => exact ⟨k + 1, by omega, by go_num, val_int (by rw [← unhide HS])⟩
          case measure => simp [intOf]; omega
        · obtain rfl : k = 8 := by omega
          have HV := fun w => hide (apiFloat_any (Ref.fval xs) w)
          have e8 : xs.take 8 = xs := List.take_of_length_le (by have := unhide HX; omega)
          rw [e8] at *
          clear hc e8
          go_wp2_with fail
          refine (unhide (HV _)).mono ?_
          rintro e w3 ⟨rfl, rfl⟩
          go_wp2
          go_ret3
          exact HF
end Go.Proofs.YtdnkfnccbmbpaaaGreatDoor.Wi
/- There and back: plain mathematics. -/
namespace Go.Proofs.YtdnkfnccbmbpaaaGreatDoor.Wi

theorem num_ub (f : Nat) (x : Int) (rest : List Int) (hf : f ≤ 8) (h0 : 0 ≤ x) (h1 : x < 128 ^ (f + 1)) (h2 : f < 8 → 1 ≤ x) :
    Ref.num (8 - f) (Ref.ub f x ++ rest) = (8 - f + (Ref.ub f x).length, 0) := by
  induction f generalizing x with
  | zero =>
    have := h2 (by omega)
    simp at h1
    simp only [Ref.ub, List.cons_append, List.nil_append, Ref.num]
    rw [if_neg (by omega), if_neg (by omega)]
    rfl
  | succ f ih =>
    by_cases hx : x < 128
    · rw [ub_stop _ _ hx]
      simp only [List.cons_append, List.nil_append, Ref.num]
      rw [if_neg (by omega), if_neg ?_]
      · rfl
      · intro h
        have := h2 (by omega)
        omega
    · rw [ub_step _ _ hx]
      simp only [List.cons_append, Ref.num]
      have hq : x / 128 < 128 ^ (f + 1) := by
        rw [Int.pow_succ] at h1
        generalize (128 : Int) ^ (f + 1) = q at *
        omega
      have := ih (x / 128) (by omega) (by omega) hq (by omega)
      rw [if_pos (by omega), if_neg (by omega), show 8 - (f + 1) + 1 = 8 - f by omega, this]
      simp only [List.length_cons, Prod.mk.injEq, and_true]
      omega

theorem val_ub (f : Nat) (x : Int) (h0 : 0 ≤ x) (h1 : x < 128 ^ (f + 1)) : Ref.val (Ref.ub f x) = x := by
  induction f generalizing x with
  | zero => simp at h1; simp [Ref.ub, Ref.val]; omega
  | succ f ih =>
    by_cases hx : x < 128
    · rw [ub_stop _ _ hx]; simp [Ref.val]; omega
    · rw [ub_step _ _ hx]
      have hq : x / 128 < 128 ^ (f + 1) := by
        rw [Int.pow_succ] at h1
        generalize (128 : Int) ^ (f + 1) = q at *
        omega
      simp only [Ref.val]
      rw [ih (x / 128) (by omega) hq]
      omega

theorem ub_byt (f : Nat) (x : Int) (h0 : 0 ≤ x) (h1 : x < 128 ^ (f + 1)) : Byt (Ref.ub f x) := by
  induction f generalizing x with
  | zero =>
    simp at h1
    intro z hz
    simp [Ref.ub] at hz
    omega
  | succ f ih =>
    by_cases hx : x < 128
    · rw [ub_stop _ _ hx]
      intro z hz
      simp at hz
      omega
    · rw [ub_step _ _ hx]
      have hq : x / 128 < 128 ^ (f + 1) := by
        rw [Int.pow_succ] at h1
        generalize (128 : Int) ^ (f + 1) = q at *
        omega
      have := ih (x / 128) (by omega) hq
      intro z hz
      rcases List.mem_cons.1 hz with rfl | hz
      · omega
      · exact this z hz
theorem uint_byt' (n : Int) (h0 : 0 ≤ n) (h1 : n ≤ 9223372036854775807) : Byt (Ref.uint n) := by
  have hu : Ref.uint n = Ref.ub 8 n := by simp [Ref.uint]; omega
  rw [hu]
  exact ub_byt 8 n h0 (by simp; omega)

theorem rd_at (pre rest : List Int) (n : Int) (h0 : 0 ≤ n) (h1 : n ≤ 9223372036854775807) : Ref.rd (pre ++ (Ref.uint n ++ rest)) pre.length = (n, (pre.length : Int) + (Ref.uint n).length, 0) := by
  have e : (pre ++ (Ref.uint n ++ rest)).drop pre.length = Ref.uint n ++ rest := by simp
  have hu : Ref.uint n = Ref.ub 8 n := by simp [Ref.uint]; omega
  have hn := num_ub 8 n rest (by omega) h0 (by simp; omega) (by omega)
  rw [← hu] at hn
  rw [Ref.rd, if_neg (by simp; omega), Int.toNat_natCast, e]
  simp only [Nat.sub_self, Nat.zero_add] at hn
  rw [hn]
  simp only [if_true]
  rw [List.take_left', hu, val_ub 8 n h0 (by simp; omega)]
  · rfl

theorem rt_at (pre rest : List Int) (s : ByteArray) (hs : s.size ≤ 140737488351232) : Ref.rt (pre ++ ((Ref.uint s.size ++ nums s) ++ rest)) pre.length s.size = (nums s, (pre.length : Int) + (Ref.uint s.size ++ nums s).length, 0) := by
  have hr := rd_at pre (nums s ++ rest) s.size (by omega) (by omega)
  rw [show Ref.uint (s.size : Int) ++ (nums s ++ rest) = Ref.uint (s.size : Int) ++ nums s ++ rest from (List.append_assoc _ _ _).symm] at hr
  rw [Ref.rt, if_neg (by omega), hr]
  simp only [ne_eq, not_true_eq_false, if_false]
  rw [if_neg (by omega), if_neg (by simp [nums_length]; omega)]
  have e1 : ((pre.length : Int) + (Ref.uint s.size).length).toNat = (pre ++ Ref.uint s.size).length := by rw [List.length_append]; omega
  have e2 : pre ++ (Ref.uint s.size ++ nums s ++ rest) = (pre ++ Ref.uint s.size) ++ (nums s ++ rest) := by simp
  rw [e1, e2, List.drop_left', Int.toNat_natCast, List.take_left' (nums_length s)]
  · simp [nums_length, Int.add_assoc]
  · rfl
end Go.Proofs.YtdnkfnccbmbpaaaGreatDoor.Wi
/- What is read is written just so: plain mathematics. -/
namespace Go.Proofs.YtdnkfnccbmbpaaaGreatDoor.Wi

theorem ub_num (ys : List Int) (i : Nat) (hi : i ≤ 8) (hb : Byt ys) (h : (Ref.num i ys).2 = 0) :
    i < (Ref.num i ys).1 ∧ Ref.ub (8 - i) (Ref.val (ys.take ((Ref.num i ys).1 - i))) = ys.take ((Ref.num i ys).1 - i) ∧ (0 < i → 1 ≤ Ref.val (ys.take ((Ref.num i ys).1 - i))) := by
  induction ys generalizing i with
  | nil => simp [Ref.num] at h
  | cons c r ih =>
    have hc := hb c (by simp)
    have hr : Byt r := fun z hz => hb z (by simp [hz])
    by_cases h128 : 128 ≤ c
    · by_cases h9 : i + 1 = 9
      · simp [Ref.num, h128, h9] at h
      · have e : Ref.num i (c :: r) = Ref.num (i + 1) r := by simp only [Ref.num]; rw [if_pos h128, if_neg h9]
        rw [e] at h ⊢
        obtain ⟨h1, h2, h3⟩ := ih (i + 1) (by omega) hr h
        have h3' := h3 (by omega)
        generalize (Ref.num (i + 1) r).1 = m at *
        have e2 : (c :: r).take (m - i) = c :: r.take (m - (i + 1)) := by
          rw [show m - i = (m - (i + 1)) + 1 by omega, List.take_succ_cons]
        rw [e2]
        simp only [Ref.val]
        generalize hv : Ref.val (r.take (m - (i + 1))) = v at *
        refine ⟨by omega, ?_, fun _ => by omega⟩
        rw [show 8 - i = (8 - (i + 1)) + 1 by omega, ub_step _ _ (by omega)]
        rw [show (c % 128 + 128 * v) / 128 = v by omega, h2, show (c % 128 + 128 * v) % 128 + 128 = c by omega]
    · by_cases hf : c = 0 ∧ 0 < i
      · simp [Ref.num, hf] at h
      · have e : Ref.num i (c :: r) = (i + 1, 0) := by simp only [Ref.num]; rw [if_neg h128, if_neg hf]
        rw [e]
        simp only [Nat.add_sub_cancel_left, List.take_succ_cons, List.take_zero, Ref.val]
        refine ⟨by omega, ?_, fun _ => by omega⟩
        rw [ub_stop _ _ (by omega)]
        congr 1
        omega

/-- What ReadUint reads is written just so. -/
theorem rd_forth (zs : List Int) (at_ : Int) (hb : Byt zs) (h : (Ref.rd zs at_).2.2 = 0) :
    Ref.uint (Ref.rd zs at_).1 = (zs.drop at_.toNat).take ((Ref.rd zs at_).2.1 - at_).toNat := by
  have hok := rd_ok zs at_ h
  unfold Ref.rd at h hok ⊢
  by_cases hbad : at_ < 0 ∨ (zs.length : Int) < at_
  · rw [if_pos hbad] at h; simp at h
  · rw [if_neg hbad] at h hok ⊢
    by_cases h2 : (Ref.num 0 (zs.drop at_.toNat)).2 = 0
    · rw [if_pos h2] at hok ⊢
      have hu := ub_num (zs.drop at_.toNat) 0 (by omega) (fun z hz => hb z (List.mem_of_mem_drop hz)) h2
      simp only [Nat.sub_zero] at hu
      simp only at hok ⊢
      rw [show (at_ + ((Ref.num 0 (zs.drop at_.toNat)).1 : Int) - at_).toNat = (Ref.num 0 (zs.drop at_.toNat)).1 by omega]
      unfold Ref.uint
      rw [if_neg (by omega)]
      exact hu.2.1
    · rw [if_neg h2] at h
      exact absurd h h2

theorem take_drop_add (zs : List Int) (a p q : Nat) (h1 : a ≤ p) (h2 : p ≤ q) : (zs.drop a).take (q - a) = (zs.drop a).take (p - a) ++ (zs.drop p).take (q - p) := by
  have e : zs.drop p = (zs.drop a).drop (p - a) := by rw [List.drop_drop]; congr 1; omega
  rw [e, ← List.take_add]
  congr 1
  omega

/-- What ReadText reads is written just so. -/
theorem rt_forth (zs : List Int) (at_ most : Int) (hb : Byt zs) (h : (Ref.rt zs at_ most).2.2 = 0) :
    0 ≤ at_ ∧ at_ < (Ref.rt zs at_ most).2.1 ∧ (Ref.rt zs at_ most).2.1 ≤ zs.length ∧
    Ref.uint ((Ref.rt zs at_ most).1.length) ++ (Ref.rt zs at_ most).1 = (zs.drop at_.toNat).take ((Ref.rt zs at_ most).2.1 - at_).toNat := by
  unfold Ref.rt at h ⊢
  by_cases hm : most < 0
  · rw [if_pos hm] at h; simp at h
  rw [if_neg hm] at h ⊢
  by_cases he : (Ref.rd zs at_).2.2 ≠ 0
  · rw [if_pos he] at h; exact absurd h he
  rw [if_neg he] at h ⊢
  have he' : (Ref.rd zs at_).2.2 = 0 := by simpa using he
  have hok := rd_ok zs at_ he'
  have hf := rd_forth zs at_ hb he'
  generalize Ref.rd zs at_ = q at *
  by_cases h3 : most < q.1
  · rw [if_pos h3] at h; simp at h
  rw [if_neg h3] at h ⊢
  by_cases h4 : (zs.length : Int) - q.2.1 < q.1
  · rw [if_pos h4] at h; simp at h
  rw [if_neg h4] at h ⊢
  simp only
  have hl : ((zs.drop q.2.1.toNat).take q.1.toNat).length = q.1.toNat := by simp; omega
  refine ⟨by omega, by omega, by omega, ?_⟩
  rw [hl, show ((q.1.toNat : Nat) : Int) = q.1 by omega, hf]
  have := take_drop_add zs at_.toNat q.2.1.toNat (q.2.1 + q.1).toNat (by omega) (by omega)
  rw [show (q.2.1 + q.1 - at_).toNat = (q.2.1 + q.1).toNat - at_.toNat by omega, this, show (q.2.1 - at_).toNat = q.2.1.toNat - at_.toNat by omega, show (q.2.1 + q.1).toNat - q.2.1.toNat = q.1.toNat by omega]
end Go.Proofs.YtdnkfnccbmbpaaaGreatDoor.Wi
/- The check sum: plain mathematics of the register. -/
namespace Go.Proofs.YtdnkfnccbmbpaaaGreatDoor.Wi.Crc

/-- The register one bit on. -/
def st (r : Nat) : Nat := if r % 2 = 1 then (r / 2) ^^^ 2197175160 else r / 2

/-- k bits on. -/
def sts : Nat → Nat → Nat
  | 0, r => r
  | k + 1, r => st (sts k r)

/-- A byte more. -/
def by1 (r c : Nat) : Nat := sts 8 (r ^^^ c)

/-- Bytes more. -/
def bys (r : Nat) (l : List Int) : Nat := l.foldl (fun r c => by1 r c.toNat) r

/-- The sum. -/
def sum (l : List Int) : Nat := bys 4294967295 l ^^^ 4294967295

theorem st_lt (r : Nat) (h : r < 4294967296) : st r < 4294967296 := by
  unfold st
  split
  · exact Nat.xor_lt_two_pow (n := 32) (by omega) (by decide)
  · omega
theorem sts_lt (k r : Nat) (h : r < 4294967296) : sts k r < 4294967296 := by
  induction k with
  | zero => exact h
  | succ k ih => exact st_lt _ ih
theorem by1_lt (r c : Nat) (h : r < 4294967296) (hc : c < 256) : by1 r c < 4294967296 :=
  sts_lt 8 _ (Nat.xor_lt_two_pow (n := 32) h (by omega))
theorem bys_lt (l : List Int) (r : Nat) (h : r < 4294967296) (hl : ∀ z ∈ l, 0 ≤ z ∧ z ≤ 255) : bys r l < 4294967296 := by
  induction l generalizing r with
  | nil => exact h
  | cons c l ih =>
    have hc := hl c (by simp)
    exact ih _ (by1_lt r c.toNat h (by omega)) (fun z hz => hl z (by simp [hz]))
theorem sum_lt (l : List Int) (hl : ∀ z ∈ l, 0 ≤ z ∧ z ≤ 255) : sum l < 4294967296 :=
  Nat.xor_lt_two_pow (n := 32) (bys_lt l _ (by decide) hl) (by decide)
theorem bys_append (r : Nat) (l m : List Int) : bys r (l ++ m) = bys (bys r l) m := by
  simp [bys]
theorem bys_snoc (r : Nat) (l : List Int) (c : Int) : bys r (l ++ [c]) = by1 (bys r l) c.toNat := by
  simp [bys]
end Go.Proofs.YtdnkfnccbmbpaaaGreatDoor.Wi.Crc
/- The contracts of the check sum. -/
namespace Go.Proofs.YtdnkfnccbmbpaaaGreatDoor.Wi
open Go.RowKit

set_option maxRecDepth 100000 in
theorem st_bits (x : Nat) (h : x < 4294967296) : bits .xor .u32 ((x : Int) / 2) (bits .and .u32 2197175160 (-bits .and .u32 (x : Int) 1 % 4294967296)) = ((Crc.st x : Nat) : Int) := by
  have e1 : bits .and .u32 (x : Int) 1 = ((x % 2 : Nat) : Int) := by
    rw [show (1 : Int) = ((1 : Nat) : Int) from rfl, u32_and_nat x 1 h (by decide), nat_mask1]
  have e2 : ((x : Int) / 2) = ((x / 2 : Nat) : Int) := by omega
  rw [e1, e2]
  unfold Crc.st
  by_cases hp : x % 2 = 1
  · rw [if_pos hp, hp]
    have e3 : (-((1 : Nat) : Int) % 4294967296) = ((4294967295 : Nat) : Int) := by decide
    rw [e3, show (2197175160 : Int) = ((2197175160 : Nat) : Int) from rfl, u32_and_nat 2197175160 4294967295 (by decide) (by decide), show (2197175160 &&& 4294967295 : Nat) = 2197175160 by decide, u32_xor_nat (x / 2) 2197175160 (by omega) (by decide)]
  · rw [if_neg hp, show x % 2 = 0 by omega]
    have e3 : (-((0 : Nat) : Int) % 4294967296) = ((0 : Nat) : Int) := by decide
    rw [e3, show (2197175160 : Int) = ((2197175160 : Nat) : Int) from rfl, u32_and_nat 2197175160 0 (by decide) (by decide), show (2197175160 &&& 0 : Nat) = 0 by decide, u32_xor_nat (x / 2) 0 (by omega) (by decide), Nat.xor_zero]

set_option maxHeartbeats 1000000 in
theorem shifted_any (r : Nat) (w : World) (h : r < 4294967296) :
    Calls Tryz.prog 50 #[.int .u32 (r : Int)] w fun e w' => e = .returned (.int .u32 (Crc.sts 8 r : Nat)) ∧ w' = w := by
  go_enter Tryz.func50, Tryz.ntmps50
  go_wp2
  go_loop [0, 3] (fun x i => ∃ k : Nat, k ≤ 8 ∧ i = .int .i64 k ∧ x = .int .u32 (Crc.sts k r : Nat)) (fun _ i => 8 - (intOf i).toNat)
  case atStart => exact ⟨0, by omega, rfl, rfl⟩
  case round =>
    obtain ⟨k, hk, rfl, rfl⟩ := hrel
    have hlt := Crc.sts_lt k r h
    by_cases h8 : k < 8
    · have hs : Crc.sts (k + 1) r = Crc.st (Crc.sts k r) := rfl
      have HS := hide hs
      clear hs
      generalize Crc.sts k r = x at *
      go_wp2
      go_round
      case rel => exact ⟨k + 1, by omega, by go_num, val_int (by rw [unhide HS]; exact st_bits x hlt)⟩
      case measure => simp [intOf]; omega
    · obtain rfl : k = 8 := by omega
      go_wp2
      go_ret
      exact ⟨rfl, rfl⟩

/-- The slice v of slices holds the parts ls. -/
def Pa (w : World) (v : Value) (ls : List (List Int)) : Prop :=
  ls.length ≤ 140737488355328 ∧
    ((ls = [] ∧ ∃ ao cap, v = .slice ao 0 cap) ∨
      ∃ b off cap, v = .slice (some ⟨b, off, none⟩) ls.length cap ∧ ls.length ≤ cap ∧ ∀ i, i < ls.length → ∃ u, w.cell? ⟨b, off + i, none⟩ = some u ∧ Sl w u (ls.getD i []))

theorem takes_snoc (ls : List (List Int)) (k : Nat) (h : k < ls.length) : (ls.take (k + 1)).flatten = (ls.take k).flatten ++ ls.getD k [] := by
  rw [List.take_succ_eq_append_getElem h, List.flatten_append]
  simp only [List.flatten_cons, List.flatten_nil, List.append_nil, List.getD, List.getElem?_eq_getElem h, Option.getD_some]

theorem xor32 (x c : Nat) (h : x < 4294967296) (hc : c < 256) : bits .xor .u32 (x : Int) (c : Int) = ((x ^^^ c : Nat) : Int) := u32_xor_nat x c h (by omega)

theorem not32 (x : Nat) (h : x < 4294967296) : bits .xor .u32 IntKind.u32.max (x : Int) = ((x ^^^ 4294967295 : Nat) : Int) := by
  rw [show IntKind.u32.max = ((4294967295 : Nat) : Int) by decide, u32_xor_nat 4294967295 x (by decide) h, Nat.xor_comm]

theorem bys_step (R0 : Nat) (zs : List Int) (j : Nat) (hj : j < zs.length) : Crc.bys R0 (zs.take (j + 1)) = Crc.sts 8 (Crc.bys R0 (zs.take j) ^^^ (zs[j]?.getD 0).toNat) := by
  rw [take_snoc zs j hj, Crc.bys_snoc]; rfl

set_option maxHeartbeats 2000000 in
theorem sum_any (v : Value) (ls : List (List Int)) (w : World) (hs : Pa w v ls) (hby : ∀ l ∈ ls, Byt l) :
    Calls Tryz.prog 27 #[v] w fun e w' => e = .returned (.int .u32 (Crc.sum ls.flatten : Nat)) ∧ w' = w := by
  have hl := hs.1
  rcases hs.2 with ⟨rfl, ao, cap, rfl⟩ | ⟨b, off, cap, rfl, hcap, hc⟩
  · go_enter Tryz.func27, Tryz.ntmps27
    go_wp2
    refine wp_loop_rounds 1 ?_
    rw [rounds_succ]
    go_wp2
    go_ret
    exact ⟨rfl, rfl⟩
  · go_enter Tryz.func27, Tryz.ntmps27
    go_wp2
    go_loop [3, 10] (fun x i => ∃ k : Nat, k ≤ ls.length ∧ i = .int .i64 k ∧ x = .int .u32 (Crc.bys 4294967295 (ls.take k).flatten : Nat)) (fun _ i => ls.length - (intOf i).toNat)
    case atStart => exact ⟨0, by omega, rfl, rfl⟩
    case round =>
      obtain ⟨k, hk, rfl, rfl⟩ := hrel
      have hrl : Crc.bys 4294967295 (ls.take k).flatten < 4294967296 := Crc.bys_lt _ _ (by decide) (fun z hz => by
        obtain ⟨l, hl1, hl2⟩ := List.mem_flatten.1 hz
        exact hby l (List.mem_of_mem_take hl1) z hl2)
      by_cases hlt : k < ls.length
      · have hts := takes_snoc ls k hlt
        have hbk : Byt (ls.getD k []) := by
          simp only [List.getD, List.getElem?_eq_getElem hlt, Option.getD_some]
          exact hby _ (List.getElem_mem hlt)
        have HS := hide (show Crc.bys 4294967295 (ls.take (k + 1)).flatten = Crc.bys (Crc.bys 4294967295 (ls.take k).flatten) (ls.getD k []) by rw [hts, Crc.bys_append])
        obtain ⟨u, hcell, hu⟩ := hc k hlt
        clear hts hc hby hs
        generalize ls.getD k [] = zs at *
        generalize Crc.bys 4294967295 (ls.take k).flatten = R0 at *
        have hzl := hu.len
        rcases Nat.eq_zero_or_pos zs.length with h0 | h0
        · have hz : zs = [] := List.eq_nil_of_length_eq_zero h0
          subst hz
          obtain ⟨ao2, cap2, rfl, _, _⟩ := hu.shape
          go_wp2
          refine wp_loop_rounds 1 ?_
          rw [rounds_succ]
          go_wp2
          go_round
          case rel => exact ⟨k + 1, by omega, by go_num, val_int (by rw [unhide HS]; rfl)⟩
          case measure => simp [intOf]; omega
        · obtain ⟨b2, off2, cap2, rfl, hd1, hd2, hd⟩ := hu.place h0
          go_wp2
          go_loop [3, 16] (fun x i => ∃ j : Nat, j ≤ zs.length ∧ i = .int .i64 j ∧ x = .int .u32 (Crc.bys R0 (zs.take j) : Nat)) (fun _ i => zs.length - (intOf i).toNat)
          case atStart => exact ⟨0, by omega, rfl, rfl⟩
          case round =>
            obtain ⟨j, hj, rfl, rfl⟩ := hrel
            have hrj : Crc.bys R0 (zs.take j) < 4294967296 := Crc.bys_lt _ _ hrl (fun z hz => hbk z (List.mem_of_mem_take hz))
            by_cases hjl : j < zs.length
            · have hcj := hd j hjl
              have hr := hbk.at j
              have HT := hide (bys_step R0 zs j hjl)
              simp only [List.getD_eq_getElem?_getD] at hcj
              clear hd
              generalize zs[j]?.getD 0 = c at *
              obtain ⟨c, rfl⟩ := Int.eq_ofNat_of_zero_le hr.1
              have hc8 : c < 256 := by omega
              generalize Crc.bys R0 (zs.take j) = x at *
              have hx := xor32 x c hrj hc8
              have HC := hide (shifted_any (x ^^^ c) w (Nat.xor_lt_two_pow (n := 32) hrj (by omega)))
              go_wp2_with fail
              refine (unhide HC).mono ?_
              rintro e w' ⟨rfl, rfl⟩
              go_wp2
              go_round
              case rel => exact ⟨j + 1, by omega, by go_num, val_int (by rw [unhide HT]; simp)⟩
              case measure => simp [intOf]; omega
            · have HJ := hide (show Crc.bys R0 (zs.take j) = Crc.bys 4294967295 (ls.take (k + 1)).flatten by rw [List.take_of_length_le (by omega), unhide HS])
              clear hd HS
              go_wp2
              go_round
              case rel => exact ⟨k + 1, by omega, by go_num, val_int (by rw [unhide HJ])⟩
              case measure => simp [intOf]; omega
      · have HR := hide (show Crc.sum ls.flatten = Crc.bys 4294967295 (ls.take k).flatten ^^^ 4294967295 by rw [List.take_of_length_le (by omega)]; rfl)
        generalize Crc.bys 4294967295 (ls.take k).flatten = R at *
        go_wp2
        go_ret
        exact ⟨ret_int (by rw [unhide HR]; exact not32 R hrl), rfl⟩
end Go.Proofs.YtdnkfnccbmbpaaaGreatDoor.Wi
