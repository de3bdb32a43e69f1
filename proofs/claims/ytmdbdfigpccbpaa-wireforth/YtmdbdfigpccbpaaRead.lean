/- The contracts of wire's reading: from, piece, numeral, value, ReadUint. -/
import Derived.Test.YtmdbdfigpccbpaaSl
namespace Go.Proofs.Ytmdbdfigpccbpaa
open Go.RowKit
set_option maxHeartbeats 400000 in
theorem from_no (v : Value) (zs : List Int) (at_ : Int) (w : World) (hs : Sl w v zs) (h : at_ < 0 ∨ (zs.length : Int) < at_) :
    Calls Try.prog 30 #[v, .int .i64 at_] w fun e w' => e = .returned (.tuple #[.slice none 0 0, .int .i64 1]) ∧ w' = w := by
  have hl := hs.len
  obtain ⟨ao, cap, rfl, hc1, hc2⟩ := hs.shape
  rcases h with h | h
  · go_enter Try.func30, Try.ntmps30
    go_wp2
    go_ret2
    exact ⟨rfl, rfl⟩
  · have h0 : decide (at_ < 0) = false := by simp; omega
    go_enter Try.func30, Try.ntmps30
    go_wp2
    go_ret2
    exact ⟨rfl, rfl⟩
set_option maxHeartbeats 400000 in
theorem from_yes (v : Value) (zs : List Int) (at_ : Int) (w : World) (hs : Sl w v zs) (h0 : 0 ≤ at_) (h1 : at_ ≤ zs.length) :
    Calls Try.prog 30 #[v, .int .i64 at_] w fun e w' => ∃ v', e = .returned (.tuple #[v', .int .i64 0]) ∧ w' = w ∧ Sl w v' (zs.drop at_.toNat) := by
  have hl := hs.len
  obtain ⟨ao, cap, rfl, hc1, hc2⟩ := hs.shape
  have h2 : decide (at_ < 0) = false := by simp; omega
  have hcut := hs.cut (l := at_.toNat) (h := zs.length) (m := zs.length) (by omega) (by omega) (by omega) hc1
  rw [List.take_of_length_le (by simp)] at hcut
  generalize hlen : zs.length = len at *
  generalize zs.drop at_.toNat = ys at *
  clear hlen
  go_enter Try.func30, Try.ntmps30
  go_wp2
  all_goals
    go_ret2
    refine ⟨_, rfl, rfl, ?_⟩
    first | (simpa [sliced, *] using hcut) | (have hh : len = at_.toNat := by assumption
                                              simpa [sliced, ← hh] using hcut)
set_option maxHeartbeats 400000 in
theorem piece_no (v : Value) (zs : List Int) (at_ size : Int) (w : World) (hs : Sl w v zs) (h0 : 0 ≤ at_) (h1 : at_ ≤ zs.length) (h : (zs.length : Int) - at_ < size) :
    Calls Try.prog 33 #[v, .int .i64 at_, .int .i64 size] w fun e w' => e = .returned (.tuple #[.slice none 0 0, .int .i64 10]) ∧ w' = w := by
  have hl := hs.len
  obtain ⟨ao, cap, rfl, hc1, hc2⟩ := hs.shape
  go_enter Try.func33, Try.ntmps33
  go_wp2
  go_ret2
  exact ⟨rfl, rfl⟩
set_option maxHeartbeats 400000 in
theorem piece_yes (v : Value) (zs : List Int) (at_ size : Int) (w : World) (hs : Sl w v zs) (h0 : 0 ≤ at_) (h1 : at_ ≤ zs.length) (h2 : 0 ≤ size) (h : size ≤ (zs.length : Int) - at_) :
    Calls Try.prog 33 #[v, .int .i64 at_, .int .i64 size] w fun e w' => ∃ v', e = .returned (.tuple #[v', .int .i64 0]) ∧ w' = w ∧ Sl w v' ((zs.drop at_.toNat).take size.toNat) := by
  have hl := hs.len
  obtain ⟨ao, cap, rfl, hc1, hc2⟩ := hs.shape
  have hcut := hs.cut (l := at_.toNat) (h := (at_ + size).toNat) (m := (at_ + size).toNat) (by omega) (by omega) (by omega) (by omega)
  rw [show (at_ + size).toNat - at_.toNat = size.toNat by omega] at hcut
  generalize hlen : zs.length = len at *
  generalize (zs.drop at_.toNat).take size.toNat = ys at *
  clear hlen
  go_enter Try.func33, Try.ntmps33
  go_wp2
  all_goals
    go_ret2
    refine ⟨_, rfl, rfl, ?_⟩
  · have hh : (at_ + size).toNat = at_.toNat := by assumption
    simp [sliced, hh] at hcut
    exact hcut
  · have hh : ¬ (at_ + size).toNat = at_.toNat := by assumption
    simp [sliced, hh] at hcut
    exact hcut

theorem num_step (zs : List Int) (k : Nat) (hk : k < zs.length) : Ref.num k (zs.drop k) =
    if 128 ≤ zs[k]?.getD 0 then (if k + 1 = 9 then (0, 11) else Ref.num (k + 1) (zs.drop (k + 1))) else if zs[k]?.getD 0 = 0 ∧ 0 < k then (0, 12) else (k + 1, 0) := by
  rw [List.drop_eq_getElem_cons hk]
  simp only [Ref.num, List.getElem?_eq_getElem hk, Option.getD_some]
theorem num_end (zs : List Int) (k : Nat) (hk : zs.length ≤ k) : Ref.num k (zs.drop k) = (0, 10) := by
  rw [List.drop_eq_nil_of_le hk]; rfl

/-- What numeral answers. -/
def NumPost (w : World) (zs : List Int) (r : Nat × Int) (e : Ending) (w' : World) : Prop :=
  ∃ v', e = .returned (.tuple #[v', .int .i64 r.2]) ∧ w' = w ∧ (r.2 = 0 → Sl w v' (zs.take r.1))

theorem NumPost.err {w : World} {zs : List Int} {r : Nat × Int} {n : Int} (h : r = (0, n)) (hn : n ≠ 0) : NumPost w zs r (.returned (.tuple #[.slice none 0 0, .int .i64 n])) w := by
  subst h; exact ⟨_, rfl, rfl, fun h => absurd h hn⟩

theorem NumPost.ok {w : World} {zs : List Int} {r : Nat × Int} {n : Nat} {v' : Value} (h : r = (n, 0)) (hv : Sl w v' (zs.take n)) : NumPost w zs r (.returned (.tuple #[v', .int .i64 0])) w := by
  subst h; exact ⟨_, rfl, rfl, fun _ => hv⟩

set_option maxHeartbeats 1000000 in
theorem numeral_any (v : Value) (zs : List Int) (w : World) (hs : Sl w v zs) :
    Calls Try.prog 31 #[v] w (NumPost w zs (Ref.num 0 zs)) := by
  have hl := hs.len
  rcases Nat.eq_zero_or_pos zs.length with h0 | h0
  · obtain ⟨ao, cap, rfl, hc1, hc2⟩ := hs.shape
    have hz : zs = [] := List.eq_nil_of_length_eq_zero h0
    subst hz
    have HF := NumPost.err (w := w) (zs := []) (r := Ref.num 0 []) (n := 10) rfl (by decide)
    generalize Ref.num 0 [] = r at *
    go_enter Try.func31, Try.ntmps31
    go_wp2
    refine wp_loop_rounds 1 ?_
    rw [rounds_succ]
    go_wp2
    go_ret2
    exact HF
  · obtain ⟨b, off, cap, rfl, hc1, hc2, hc⟩ := hs.place h0
    have hbt := hs.1
    go_enter Try.func31, Try.ntmps31
    go_wp2
    go_loop [8] (fun i => ∃ k : Nat, k ≤ zs.length ∧ k ≤ 8 ∧ i = .int .i64 k ∧ Ref.num 0 zs = Ref.num k (zs.drop k)) (fun i => zs.length - (intOf i).toNat)
    case atStart => exact ⟨0, Nat.zero_le _, by omega, rfl, by simp⟩
    case round =>
      obtain ⟨k, hk, hk8, rfl, hn⟩ := hrel
      by_cases hlt : k < zs.length
      · have hcell := hc k hlt
        have hr := hbt.at k
        have hst := num_step zs k hlt
        rw [← hn] at hst
        simp only [List.getD_eq_getElem?_getD] at hcell
        clear hn
        generalize zs[k]?.getD 0 = c at *
        by_cases h128 : 128 ≤ c
        · rw [if_pos h128] at hst
          by_cases h9 : k + 1 = 9
          · rw [if_pos h9] at hst
            have HF := NumPost.err (w := w) (zs := zs) hst (by decide)
            obtain rfl : k = 8 := by omega
            clear hst hc
            generalize Ref.num 0 zs = r at *
            go_wp2
            go_ret2
            exact HF
          · rw [if_neg h9] at hst
            have HS : Hid (Ref.num 0 zs = Ref.num (k + 1) (zs.drop (k + 1))) := hst
            have h9' : ((k : Int) + 1 == 9) = false := beq_eq_false_iff_ne.2 (by omega)
            clear hst hc
            go_wp2
            go_round
            case rel => exact ⟨k + 1, by omega, by omega, by go_num, HS.out⟩
            case measure => simp [intOf]; omega
        · rw [if_neg h128] at hst
          by_cases hform : c = 0 ∧ 0 < k
          · rw [if_pos hform] at hst
            have HF := NumPost.err (w := w) (zs := zs) hst (by decide)
            obtain ⟨rfl, hk0⟩ := hform
            clear hst hc
            generalize Ref.num 0 zs = r at *
            go_wp2
            go_ret2
            exact HF
          · rw [if_neg hform] at hst
            have HS : Hid (Ref.num 0 zs = (k + 1, 0)) := hst
            clear hst hc
            have HP := hide (piece_yes _ zs 0 ((k : Int) + 1) w hs (by omega) (by omega) (by omega) (by omega))
            by_cases hc0 : c = 0
            · have hc0' : (c == 0) = true := beq_iff_eq.2 hc0
              have hk0 : k ≤ 0 := by omega
              clear hc0
              go_wp2_with fail
              all_goals
                refine (unhide HP).mono ?_
                rintro e w' ⟨v', rfl, rfl, hv⟩
                go_wp2
                go_ret2
                exact NumPost.ok HS.out (by simpa using hv)
            · have hc0' : (c == 0) = false := beq_eq_false_iff_ne.2 hc0
              clear hc0
              go_wp2_with fail
              all_goals
                refine (unhide HP).mono ?_
                rintro e w' ⟨v', rfl, rfl, hv⟩
                go_wp2
                go_ret2
                exact NumPost.ok HS.out (by simpa using hv)
      · have hst := num_end zs k (by omega)
        rw [← hn] at hst
        have HF := NumPost.err (w := w) (zs := zs) hst (by decide)
        clear hst hn hc
        generalize Ref.num 0 zs = r at *
        go_wp2
        go_ret2
        exact HF
theorem val_snoc (l : List Int) (c : Int) : Ref.val (l ++ [c]) = Ref.val l + c % 128 * 128 ^ l.length := by
  induction l with
  | nil => simp [Ref.val]
  | cons a r ih =>
    simp only [List.cons_append, Ref.val, ih, List.length_cons, Int.pow_succ]
    generalize (128 : Int) ^ r.length = p
    rw [Int.mul_add, ← Int.add_assoc, Int.mul_comm 128 (c % 128 * p), Int.mul_assoc]
theorem val_bound (l : List Int) : 0 ≤ Ref.val l ∧ Ref.val l < 128 ^ l.length := by
  induction l with
  | nil => simp [Ref.val]
  | cons a r ih =>
    simp only [Ref.val, List.length_cons, Int.pow_succ]
    omega
theorem take_snoc (zs : List Int) (k : Nat) (h : k < zs.length) : zs.take (k + 1) = zs.take k ++ [zs[k]?.getD 0] := by
  rw [List.take_succ_eq_append_getElem h]; simp [h]
theorem wraps_i64 (n : Int) (h₀ : 0 ≤ n) (h₁ : n < 2 ^ 63) : IntKind.i64.wrap n = n := by rw [IntKind.wrap_i64]; omega
theorem pow128 (k : Nat) : (128 : Int) ^ k = 2 ^ (7 * k) := by
  rw [Int.pow_mul]; rfl
theorem bits_or_comm (k : IntKind) (x y : Int) : bits .or k x y = bits .or k y x := by
  simp only [bits, BitVec.or_comm]
theorem pow56 (n : Nat) (h : n ≤ 8) : (1 : Int) ≤ 2 ^ (7 * n) ∧ (2 : Int) ^ (7 * n) ≤ 2 ^ 56 := by
  have h1 := Nat.pow_le_pow_right (n := 2) (by decide) (show 7 * n ≤ 56 by omega)
  have h2 := Nat.two_pow_pos (7 * n)
  constructor
  · exact_mod_cast h2
  · exact_mod_cast h1
/-- One group more. -/
theorem val_or (l : List Int) (c : Int) (h : l.length ≤ 8) : bits .or .i64 (Ref.val l) (c % 128 * 2 ^ (7 * l.length)) = Ref.val (l ++ [c]) := by
  have hb := val_bound l
  have hp := pow56 l.length h
  rw [val_snoc, pow128, bits_or_comm]
  rw [pow128] at hb
  generalize hq : (2 : Int) ^ (7 * l.length) = q at *
  have h1 : 0 ≤ c % 128 * q := Int.mul_nonneg (by omega) (by omega)
  have h2 : c % 128 * q ≤ 127 * q := Int.mul_le_mul_of_nonneg_right (by omega) (by omega)
  rw [bits_join .i64 63 (by decide) wraps_i64 (7 * l.length) (c % 128 * q) (Ref.val l) h1 (by rw [hq]; exact Int.mul_emod_left _ _) (by omega) hb.1 (by rw [hq]; exact hb.2) (by omega), Int.add_comm]
theorem andNot128 (c : Int) (h0 : 0 ≤ c) (h1 : c ≤ 255) : bits .andNot .u8 c 128 = c % 128 := by
  rw [u8_andNot c 128 h0 (by omega) (by decide) (by decide)]
  show ((c.toNat &&& 127 : Nat) : Int) = _
  rw [nat_mask7]; omega

theorem grp_in (c : Int) (k : Nat) (hk : k ≤ 8) : wrap64 (c % 128 * 2 ^ (7 * k)) = c % 128 * 2 ^ (7 * k) := by
  have hp := pow56 k hk
  generalize (2 : Int) ^ (7 * k) = q at *
  have h1 : 0 ≤ c % 128 * q := Int.mul_nonneg (by omega) (by omega)
  have h2 : c % 128 * q ≤ 127 * q := Int.mul_le_mul_of_nonneg_right (by omega) (by omega)
  exact IntWalk.wrap64_in _ ⟨by omega, by omega⟩
theorem ret_int {k : IntKind} {a b : Int} (h : a = b) : Ending.returned (.int k a) = .returned (.int k b) := by rw [h]
theorem val_int {k : IntKind} {a b : Int} (h : a = b) : Value.int k a = .int k b := by rw [h]

set_option maxHeartbeats 1000000 in
theorem value_any (v : Value) (zs : List Int) (w : World) (hs : Sl w v zs) (h9 : zs.length ≤ 9) :
    Calls Try.prog 32 #[v] w fun e w' => e = .returned (.int .i64 (Ref.val zs)) ∧ w' = w := by
  rcases Nat.eq_zero_or_pos zs.length with h0 | h0
  · obtain ⟨ao, cap, rfl, hc1, hc2⟩ := hs.shape
    have hz : zs = [] := List.eq_nil_of_length_eq_zero h0
    subst hz
    go_enter Try.func32, Try.ntmps32
    go_wp2
    refine wp_loop_rounds 1 ?_
    rw [rounds_succ]
    go_wp2
    go_ret
    exact ⟨rfl, rfl⟩
  · obtain ⟨b, off, cap, rfl, hc1, hc2, hc⟩ := hs.place h0
    have hbt := hs.1
    go_enter Try.func32, Try.ntmps32
    go_wp2
    go_loop [3, 8] (fun n i => ∃ k : Nat, k ≤ zs.length ∧ i = .int .i64 k ∧ n = .int .i64 (Ref.val (zs.take k))) (fun _ i => zs.length - (intOf i).toNat)
    case atStart => exact ⟨0, Nat.zero_le _, rfl, rfl⟩
    case round =>
      obtain ⟨k, hk, rfl, rfl⟩ := hrel
      by_cases hlt : k < zs.length
      · have hcell := hc k hlt
        have hr := hbt.at k
        simp only [List.getD_eq_getElem?_getD] at hcell
        have hk8 : k ≤ 8 := by omega
        have hts := take_snoc zs k hlt
        have htl : (zs.take k).length = k := by simp; omega
        have hor := val_or (zs.take k) (zs[k]?.getD 0) (by omega)
        rw [← hts, htl] at hor
        have HS := hide hor
        have hvb := val_bound (zs.take k)
        rw [htl, pow128] at hvb
        have hpw := pow56 k hk8
        clear hor hts htl hc
        generalize zs[k]?.getD 0 = c at *
        have hm := andNot128 c hr.1 hr.2
        go_wp2
        go_round
        case rel => exact ⟨k + 1, by omega, by go_num, val_int (by rw [← unhide HS, grp_in c k hk8])⟩
        case measure => simp [intOf]; omega
      · go_wp2
        go_ret
        exact ⟨ret_int (by rw [List.take_of_length_le (by omega)]), rfl⟩

/-- What ReadUint answers. -/
def RdPost (w : World) (r : Int × Int × Int) (e : Ending) (w' : World) : Prop :=
  e = .returned (.tuple #[.int .i64 r.1, .int .i64 r.2.1, .int .i64 r.2.2]) ∧ w' = w

theorem RdPost.mk {w : World} {r : Int × Int × Int} {a b c : Int} (h : r = (a, b, c)) : RdPost w r (.returned (.tuple #[.int .i64 a, .int .i64 b, .int .i64 c])) w := by
  subst h; exact ⟨rfl, rfl⟩

set_option maxHeartbeats 1000000 in
theorem readUint_any (v : Value) (zs : List Int) (at_ : Int) (w : World) (hs : Sl w v zs) :
    Calls Try.prog 10 #[v, .int .i64 at_] w (RdPost w (Ref.rd zs at_)) := by
  have hl := hs.len
  by_cases hbad : at_ < 0 ∨ (zs.length : Int) < at_
  · have HF := RdPost.mk (w := w) (show Ref.rd zs at_ = (0, 0, 1) by simp [Ref.rd, hbad])
    have HP := hide (from_no v zs at_ w hs hbad)
    generalize Ref.rd zs at_ = r at *
    clear hbad
    obtain ⟨ao, cap, rfl, hc1, hc2⟩ := hs.shape
    go_enter Try.func10, Try.ntmps10
    go_wp2_with fail
    refine (unhide HP).mono ?_
    rintro e w' ⟨rfl, rfl⟩
    go_wp2
    go_ret3
    exact HF
  · have h0 : 0 ≤ at_ := by omega
    have h1 : at_ ≤ zs.length := by omega
    have HP := hide (from_yes v zs at_ w hs h0 h1)
    have hnb := Ref.num_bytes (zs.drop at_.toNat) 0 (by omega)
    have hnl := Ref.num_le (zs.drop at_.toNat) 0
    have hrd : Ref.rd zs at_ = if (Ref.num 0 (zs.drop at_.toNat)).2 = 0 then (Ref.val ((zs.drop at_.toNat).take (Ref.num 0 (zs.drop at_.toNat)).1), at_ + (Ref.num 0 (zs.drop at_.toNat)).1, 0) else (0, 0, (Ref.num 0 (zs.drop at_.toNat)).2) := by
      simp [Ref.rd, hbad]
    have hdl : (zs.drop at_.toNat).length ≤ zs.length - at_.toNat := by simp
    have HRD := hide hrd
    clear hrd hbad
    generalize zs.drop at_.toNat = ys at *
    obtain ⟨ao, cap, rfl, hc1, hc2⟩ := hs.shape
    go_enter Try.func10, Try.ntmps10
    go_wp2_with fail
    refine (unhide HP).mono ?_
    rintro e w' ⟨v', rfl, rfl, hv'⟩
    have HN := hide (numeral_any v' ys w' hv')
    generalize Ref.num 0 ys = r at *
    go_wp2_with fail
    refine (unhide HN).mono ?_
    rintro e w'' ⟨v'', rfl, rfl, hv''⟩
    clear HN HP
    by_cases h2 : r.2 = 0
    · have HF := RdPost.mk (w := w'') ((unhide HRD).trans (if_pos h2))
      have hne : (r.2 != 0) = false := by simp [h2]
      have h9 := hv'' h2
      have hlen : (ys.take r.1).length = r.1 := by simp; omega
      have HV := hide (value_any v'' (ys.take r.1) w'' h9 (by omega))
      obtain ⟨ao2, cap2, rfl, hd1, hd2⟩ := h9.shape
      rw [hlen] at *
      have hr1 : r.1 ≤ 9 := hnb.1
      have hr2 : r.1 ≤ zs.length - at_.toNat := by omega
      generalize Ref.rd zs at_ = q at *
      clear HRD h2 hv' hv'' h9 hnb hnl hdl hlen
      go_wp2_with fail
      refine (unhide HV).mono ?_
      rintro e w3 ⟨rfl, rfl⟩
      go_wp2
      go_ret3
      exact HF
    · have HF := RdPost.mk (w := w'') ((unhide HRD).trans (if_neg h2))
      have hne : (r.2 != 0) = true := by simp [h2]
      generalize Ref.rd zs at_ = q at *
      clear HRD h2 hv' hv''
      go_wp2
      go_ret3
      exact HF
end Go.Proofs.Ytmdbdfigpccbpaa
