import Derived.WalkKit
import Derived.WalkSpells
import Derived.WalkLawsBesides
import Derived.Test.YtdnkfnccbmbpaaaGreatDoorGa8
import Derived.Test.YtdnkfnccbmbpaaaGreatDoorProg
import Derived.Lib.AppendStr
import Derived.Laws.BytesArg
import Derived.Laws.AppendOwnNone
/- The plain mathematics of numbers as bytes: nothing of the program is imported here. -/
namespace Go.Proofs.YtdnkfnccbmbpaaaGreatDoor.Wi.Ref

/-- How many bytes the number at the head of a list takes, and the error, i bytes being behind. -/
def num : Nat → List Int → Nat × Int
  | _, [] => (0, 10)
  | i, c :: r => if 128 ≤ c then (if i + 1 = 9 then (0, 11) else num (i + 1) r) else if c = 0 ∧ 0 < i then (0, 12) else (i + 1, 0)

/-- The number of a list of groups. -/
def val : List Int → Int
  | [] => 0
  | c :: r => c % 128 + 128 * val r

/-- ReadUint. -/
def rd (zs : List Int) (at_ : Int) : Int × Int × Int :=
  if at_ < 0 ∨ (zs.length : Int) < at_ then (0, 0, 1)
  else if (num 0 (zs.drop at_.toNat)).2 = 0 then (val ((zs.drop at_.toNat).take (num 0 (zs.drop at_.toNat)).1), at_ + (num 0 (zs.drop at_.toNat)).1, 0)
  else (0, 0, (num 0 (zs.drop at_.toNat)).2)

/-- Uint, with fuel. -/
def ub : Nat → Int → List Int
  | 0, n => [n]
  | f + 1, n => if n < 128 then [n] else (n % 128 + 128) :: ub f (n / 128)

/-- Uint. -/
def uint (n : Int) : List Int := if n < 0 then [] else ub 8 n

theorem num_le (zs : List Int) (i : Nat) : (num i zs).1 ≤ i + zs.length := by
  induction zs generalizing i with
  | nil => simp [num]
  | cons c r ih =>
    have := ih (i + 1)
    simp only [num, List.length_cons]
    split
    · split
      · simp
      · omega
    · split
      · simp
      · simp only; omega

theorem num_bytes (zs : List Int) (i : Nat) (hi : i ≤ 8) : (num i zs).1 ≤ 9 ∧ ((num i zs).2 = 0 → i < (num i zs).1) ∧ ((num i zs).2 ≠ 0 → (num i zs).1 = 0) := by
  induction zs generalizing i with
  | nil => simp [num]
  | cons c r ih =>
    simp only [num]
    split
    · split
      · simp
      · have := ih (i + 1) (by omega)
        exact ⟨this.1, fun h => by have := this.2.1 h; omega, this.2.2⟩
    · split
      · simp
      · simp only
        omega
end Go.Proofs.YtdnkfnccbmbpaaaGreatDoor.Wi.Ref
/- Bytes in memory: 'Sl w v zs': the slice value v holds the bytes zs in the world w. -/
namespace Go.Proofs.YtdnkfnccbmbpaaaGreatDoor.Wi
open Go.RowKit



def Byt (zs : List Int) : Prop := ∀ z ∈ zs, 0 ≤ z ∧ z ≤ 255

theorem Byt.at {zs : List Int} (h : Byt zs) (i : Nat) : 0 ≤ zs[i]?.getD 0 ∧ zs[i]?.getD 0 ≤ 255 := by
  rcases Nat.lt_or_ge i zs.length with hi | hi
  · simp only [List.getElem?_eq_getElem hi, Option.getD_some]; exact h _ (List.getElem_mem hi)
  · simp [List.getElem?_eq_none hi]

/-- The slice value v holds the bytes zs. -/
def Sl (w : World) (v : Value) (zs : List Int) : Prop :=
  Byt zs ∧ zs.length ≤ 140737488355328 ∧
    ((zs = [] ∧ ∃ ao cap, v = .slice ao 0 cap ∧ cap ≤ 9223372036854775807 ∧ (ao = none → cap = 0)) ∨
      ∃ b off cap, v = .slice (some ⟨b, off, none⟩) zs.length cap ∧ zs.length ≤ cap ∧ cap ≤ 9223372036854775807 ∧ ∀ i, i < zs.length → w.cell? ⟨b, off + i, none⟩ = some (.int .u8 (zs.getD i 0)))

theorem Sl.nil (w : World) : Sl w (.slice none 0 0) [] := by
  refine ⟨?_, ?_, ?_⟩
  · intro z h; cases h
  · simp
  · exact .inl ⟨rfl, none, 0, rfl, by omega, fun _ => rfl⟩


/-- What a call keeps it keeps of the bytes that were there. -/
theorem Sl.below {w w' : World} {v : Value} {zs : List Int} (h : Sl w v zs) (hb : Below w.heap.size w w') : Sl w' v zs := by
  obtain ⟨h1, h2, h3⟩ := h
  refine ⟨h1, h2, ?_⟩
  rcases h3 with h3 | ⟨b, off, cap, hv, hl, hm, hc⟩
  · exact .inl h3
  · refine .inr ⟨b, off, cap, hv, hl, hm, fun i hi => ?_⟩
    rw [hb.cell (lt_of_cell? (hc i hi))]
    exact hc i hi

/-- A part of the bytes, cut by a slice expression with three bounds, or two. -/
theorem Sl.cut {w : World} {ao : Option Addr} {len cap l h m : Nat} {zs : List Int} (hs : Sl w (.slice ao len cap) zs) (h1 : l ≤ h) (h2 : h ≤ len) (h3 : h ≤ m) (h4 : m ≤ cap) :
    Sl w (sliced ao l h m 1) ((zs.drop l).take (h - l)) := by
  obtain ⟨b1, b2, b3⟩ := hs
  have hb : Byt ((zs.drop l).take (h - l)) := fun z hz => b1 z (List.mem_of_mem_drop (List.mem_of_mem_take hz))
  rcases b3 with ⟨rfl, ao', cap', hv, hm, hnil⟩ | ⟨b, off, cap', hv, hl, hm, hc⟩
  · simp only [Value.slice.injEq] at hv
    obtain ⟨rfl, rfl, rfl⟩ := hv
    refine ⟨hb, by simp, .inl ⟨by simp, (if m = l then ao else ao.map (·.add (l * 1))), m - l, ?_, by omega, fun hn => ?_⟩⟩
    · have : h - l = 0 := by omega
      simp only [sliced, this]
    · split at hn
      · omega
      · have := hnil (by simpa using hn)
        omega
  · simp only [Value.slice.injEq] at hv
    obtain ⟨rfl, rfl, rfl⟩ := hv
    have hlen : ((zs.drop l).take (h - l)).length = h - l := by simp; omega
    refine ⟨hb, by omega, ?_⟩
    by_cases he : h = l
    · refine .inl ⟨by rw [he]; simp, (if m = l then some ⟨b, off, none⟩ else (some ⟨b, off, none⟩ : Option Addr).map (·.add (l * 1))), m - l, ?_, by omega, fun hn => ?_⟩
      · have : h - l = 0 := by omega
        simp only [sliced, this]
      · split at hn <;> simp at hn
    · refine .inr ⟨b, off + l, m - l, ?_, by omega, by omega, fun i hi => ?_⟩
      · rw [hlen]
        have : ¬ m = l := by omega
        simp only [sliced, this, if_false, Option.map_some, Nat.mul_one]
        congr 2
        unfold Addr.add; split <;> simp_all
      · rw [Nat.add_assoc, hc (l + i) (by omega)]
        simp [List.getD, List.getElem?_take_of_lt (show i < h - l by omega), List.getElem?_drop]

/-- The value is a slice. -/
theorem Sl.shape {w : World} {v : Value} {zs : List Int} (h : Sl w v zs) : ∃ ao cap, v = .slice ao zs.length cap ∧ zs.length ≤ cap ∧ cap ≤ 9223372036854775807 := by
  rcases h.2.2 with ⟨rfl, ao, cap, hv, hm, _⟩ | ⟨b, off, cap, hv, hl, hm, _⟩
  · exact ⟨ao, cap, hv, by simp, hm⟩
  · exact ⟨_, cap, hv, hl, hm⟩

/-- A slice that holds a byte lies at a plain place. -/
theorem Sl.place {w : World} {v : Value} {zs : List Int} (h : Sl w v zs) (hne : 0 < zs.length) :
    ∃ b off cap, v = .slice (some ⟨b, off, none⟩) zs.length cap ∧ zs.length ≤ cap ∧ cap ≤ 9223372036854775807 ∧ ∀ i, i < zs.length → w.cell? ⟨b, off + i, none⟩ = some (.int .u8 (zs.getD i 0)) := by
  rcases h.2.2 with ⟨rfl, _⟩ | h
  · simp at hne
  · exact h

theorem Sl.len {w : World} {v : Value} {zs : List Int} (h : Sl w v zs) : zs.length ≤ 140737488355328 := h.2.1

end Go.Proofs.YtdnkfnccbmbpaaaGreatDoor.Wi
/- The contracts of wire's reading: from, piece, numeral, value, ReadUint. -/
namespace Go.Proofs.YtdnkfnccbmbpaaaGreatDoor.Wi
open Go.RowKit
set_option maxHeartbeats 400000 in
theorem from_no (v : Value) (zs : List Int) (at_ : Int) (w : World) (hs : Sl w v zs) (h : at_ < 0 ∨ (zs.length : Int) < at_) :
    Calls Tryz.prog 109 #[v, .int .i64 at_] w fun e w' => e = .returned (.tuple #[.slice none 0 0, .int .i64 1]) ∧ w' = w := by
  have hl := hs.len
  obtain ⟨ao, cap, rfl, hc1, hc2⟩ := hs.shape
  rcases h with h | h
  · go_enter Tryz.func109, Tryz.ntmps109
    go_wp2
    go_ret2
    exact ⟨rfl, rfl⟩
  · have h0 : decide (at_ < 0) = false := by simp; omega
    go_enter Tryz.func109, Tryz.ntmps109
    go_wp2
    go_ret2
    exact ⟨rfl, rfl⟩
set_option maxHeartbeats 400000 in
theorem from_yes (v : Value) (zs : List Int) (at_ : Int) (w : World) (hs : Sl w v zs) (h0 : 0 ≤ at_) (h1 : at_ ≤ zs.length) :
    Calls Tryz.prog 109 #[v, .int .i64 at_] w fun e w' => ∃ v', e = .returned (.tuple #[v', .int .i64 0]) ∧ w' = w ∧ Sl w v' (zs.drop at_.toNat) := by
  have hl := hs.len
  obtain ⟨ao, cap, rfl, hc1, hc2⟩ := hs.shape
  have h2 : decide (at_ < 0) = false := by simp; omega
  have hcut := hs.cut (l := at_.toNat) (h := zs.length) (m := zs.length) (by omega) (by omega) (by omega) hc1
  rw [List.take_of_length_le (by simp)] at hcut
  generalize hlen : zs.length = len at *
  generalize zs.drop at_.toNat = ys at *
  clear hlen
  go_enter Tryz.func109, Tryz.ntmps109
  go_wp2
  all_goals
    go_ret2
    refine ⟨_, rfl, rfl, ?_⟩
    first | (simpa [sliced, *] using hcut) | (have hh : len = at_.toNat := by assumption
                                              simpa [sliced, ← hh] using hcut)
set_option maxHeartbeats 400000 in
theorem piece_no (v : Value) (zs : List Int) (at_ size : Int) (w : World) (hs : Sl w v zs) (h0 : 0 ≤ at_) (h1 : at_ ≤ zs.length) (h : (zs.length : Int) - at_ < size) :
    Calls Tryz.prog 110 #[v, .int .i64 at_, .int .i64 size] w fun e w' => e = .returned (.tuple #[.slice none 0 0, .int .i64 10]) ∧ w' = w := by
  have hl := hs.len
  obtain ⟨ao, cap, rfl, hc1, hc2⟩ := hs.shape
  go_enter Tryz.func110, Tryz.ntmps110
  go_wp2
  go_ret2
  exact ⟨rfl, rfl⟩
set_option maxHeartbeats 400000 in
theorem piece_yes (v : Value) (zs : List Int) (at_ size : Int) (w : World) (hs : Sl w v zs) (h0 : 0 ≤ at_) (h1 : at_ ≤ zs.length) (h2 : 0 ≤ size) (h : size ≤ (zs.length : Int) - at_) :
    Calls Tryz.prog 110 #[v, .int .i64 at_, .int .i64 size] w fun e w' => ∃ v', e = .returned (.tuple #[v', .int .i64 0]) ∧ w' = w ∧ Sl w v' ((zs.drop at_.toNat).take size.toNat) := by
  have hl := hs.len
  obtain ⟨ao, cap, rfl, hc1, hc2⟩ := hs.shape
  have hcut := hs.cut (l := at_.toNat) (h := (at_ + size).toNat) (m := (at_ + size).toNat) (by omega) (by omega) (by omega) (by omega)
  rw [show (at_ + size).toNat - at_.toNat = size.toNat by omega] at hcut
  generalize hlen : zs.length = len at *
  generalize (zs.drop at_.toNat).take size.toNat = ys at *
  clear hlen
  go_enter Tryz.func110, Tryz.ntmps110
  go_wp2
  all_goals
    go_ret2
    refine ⟨_, rfl, rfl, ?_⟩
  · have hh : (at_ + size).toNat = at_.toNat := by assumption
    simp [sliced, hh] at hcut
    exact hcut
  · have hh : ¬ (at_ + size).toNat = at_.toNat := by assumption
    simp [sliced, hh] at hcut
    exact hcut

theorem num_step (zs : List Int) (k : Nat) (hk : k < zs.length) : Ref.num k (zs.drop k) =
    if 128 ≤ zs[k]?.getD 0 then (if k + 1 = 9 then (0, 11) else Ref.num (k + 1) (zs.drop (k + 1))) else if zs[k]?.getD 0 = 0 ∧ 0 < k then (0, 12) else (k + 1, 0) := by
  rw [List.drop_eq_getElem_cons hk]
  simp only [Ref.num, List.getElem?_eq_getElem hk, Option.getD_some]
theorem num_end (zs : List Int) (k : Nat) (hk : zs.length ≤ k) : Ref.num k (zs.drop k) = (0, 10) := by
  rw [List.drop_eq_nil_of_le hk]; rfl

/-- What numeral answers. -/
def NumPost (w : World) (zs : List Int) (r : Nat × Int) (e : Ending) (w' : World) : Prop :=
  ∃ v', e = .returned (.tuple #[v', .int .i64 r.2]) ∧ w' = w ∧ (r.2 = 0 → Sl w v' (zs.take r.1))

theorem NumPost.err {w : World} {zs : List Int} {r : Nat × Int} {n : Int} (h : r = (0, n)) (hn : n ≠ 0) : NumPost w zs r (.returned (.tuple #[.slice none 0 0, .int .i64 n])) w := by
  subst h; exact ⟨_, rfl, rfl, fun h => absurd h hn⟩

theorem NumPost.ok {w : World} {zs : List Int} {r : Nat × Int} {n : Nat} {v' : Value} (h : r = (n, 0)) (hv : Sl w v' (zs.take n)) : NumPost w zs r (.returned (.tuple #[v', .int .i64 0])) w := by
  subst h; exact ⟨_, rfl, rfl, fun _ => hv⟩

set_option maxHeartbeats 1000000 in
theorem numeral_any (v : Value) (zs : List Int) (w : World) (hs : Sl w v zs) :
    Calls Tryz.prog 111 #[v] w (NumPost w zs (Ref.num 0 zs)) := by
  have hl := hs.len
  rcases Nat.eq_zero_or_pos zs.length with h0 | h0
  · obtain ⟨ao, cap, rfl, hc1, hc2⟩ := hs.shape
    have hz : zs = [] := List.eq_nil_of_length_eq_zero h0
    subst hz
    have HF := NumPost.err (w := w) (zs := []) (r := Ref.num 0 []) (n := 10) rfl (by decide)
    generalize Ref.num 0 [] = r at *
    go_enter Tryz.func111, Tryz.ntmps111
    go_wp2
    refine wp_loop_rounds 1 ?_
    rw [rounds_succ]
    go_wp2
    go_ret2
    exact HF
  · obtain ⟨b, off, cap, rfl, hc1, hc2, hc⟩ := hs.place h0
    have hbt := hs.1
    go_enter Tryz.func111, Tryz.ntmps111
    go_wp2
    go_loop [8] (fun i => ∃ k : Nat, k ≤ zs.length ∧ k ≤ 8 ∧ i = .int .i64 k ∧ Ref.num 0 zs = Ref.num k (zs.drop k)) (fun i => zs.length - (intOf i).toNat)
    case atStart => exact ⟨0, Nat.zero_le _, by omega, rfl, by simp⟩
    case round =>
      obtain ⟨k, hk, hk8, rfl, hn⟩ := hrel
      by_cases hlt : k < zs.length
      · have hcell := hc k hlt
        have hr := hbt.at k
        have hst := num_step zs k hlt
        rw [← hn] at hst
        simp only [List.getD_eq_getElem?_getD] at hcell
        clear hn
        generalize zs[k]?.getD 0 = c at *
        by_cases h128 : 128 ≤ c
        · rw [if_pos h128] at hst
          by_cases h9 : k + 1 = 9
          · rw [if_pos h9] at hst
            have HF := NumPost.err (w := w) (zs := zs) hst (by decide)
            obtain rfl : k = 8 := by omega
            clear hst hc
            generalize Ref.num 0 zs = r at *
            go_wp2
            go_ret2
            exact HF
          · rw [if_neg h9] at hst
            have HS : Hid (Ref.num 0 zs = Ref.num (k + 1) (zs.drop (k + 1))) := hst
            have h9' : ((k : Int) + 1 == 9) = false := beq_eq_false_iff_ne.2 (by omega)
            clear hst hc
            go_wp2
            go_round
            case rel => exact ⟨k + 1, by omega, by omega, by go_num, HS.out⟩
            case measure => simp [intOf]; omega
        · rw [if_neg h128] at hst
          by_cases hform : c = 0 ∧ 0 < k
          · rw [if_pos hform] at hst
            have HF := NumPost.err (w := w) (zs := zs) hst (by decide)
            obtain ⟨rfl, hk0⟩ := hform
            clear hst hc
            generalize Ref.num 0 zs = r at *
            go_wp2
            go_ret2
            exact HF
          · rw [if_neg hform] at hst
            have HS : Hid (Ref.num 0 zs = (k + 1, 0)) := hst
            clear hst hc
            have HP := hide (piece_yes _ zs 0 ((k : Int) + 1) w hs (by omega) (by omega) (by omega) (by omega))
            by_cases hc0 : c = 0
            · have hc0' : (c == 0) = true := beq_iff_eq.2 hc0
              have hk0 : k ≤ 0 := by omega
              clear hc0
              go_wp2_with fail
              all_goals
                refine (unhide HP).mono ?_
                rintro e w' ⟨v', rfl, rfl, hv⟩
                go_wp2
                go_ret2
                exact NumPost.ok HS.out (by simpa using hv)
            · have hc0' : (c == 0) = false := beq_eq_false_iff_ne.2 hc0
              clear hc0
              go_wp2_with fail
              all_goals
                refine (unhide HP).mono ?_
                rintro e w' ⟨v', rfl, rfl, hv⟩
                go_wp2
                go_ret2
                exact NumPost.ok HS.out (by simpa using hv)
      · have hst := num_end zs k (by omega)
        rw [← hn] at hst
        have HF := NumPost.err (w := w) (zs := zs) hst (by decide)
        clear hst hn hc
        generalize Ref.num 0 zs = r at *
        go_wp2
        go_ret2
        exact HF
theorem val_snoc (l : List Int) (c : Int) : Ref.val (l ++ [c]) = Ref.val l + c % 128 * 128 ^ l.length := by
  induction l with
  | nil => simp [Ref.val]
  | cons a r ih =>
    simp only [List.cons_append, Ref.val, ih, List.length_cons, Int.pow_succ]
    generalize (128 : Int) ^ r.length = p
    rw [Int.mul_add, ← Int.add_assoc, Int.mul_comm 128 (c % 128 * p), Int.mul_assoc]
theorem val_bound (l : List Int) : 0 ≤ Ref.val l ∧ Ref.val l < 128 ^ l.length := by
  induction l with
  | nil => simp [Ref.val]
  | cons a r ih =>
    simp only [Ref.val, List.length_cons, Int.pow_succ]
    omega
theorem take_snoc (zs : List Int) (k : Nat) (h : k < zs.length) : zs.take (k + 1) = zs.take k ++ [zs[k]?.getD 0] := by
  rw [List.take_succ_eq_append_getElem h]; simp [h]
theorem wraps_i64 (n : Int) (h₀ : 0 ≤ n) (h₁ : n < 2 ^ 63) : IntKind.i64.wrap n = n := by rw [IntKind.wrap_i64]; omega
theorem pow128 (k : Nat) : (128 : Int) ^ k = 2 ^ (7 * k) := by
  rw [Int.pow_mul]; rfl
theorem bits_or_comm (k : IntKind) (x y : Int) : bits .or k x y = bits .or k y x := by
  simp only [bits, BitVec.or_comm]
theorem pow56 (n : Nat) (h : n ≤ 8) : (1 : Int) ≤ 2 ^ (7 * n) ∧ (2 : Int) ^ (7 * n) ≤ 2 ^ 56 := by
  have h1 := Nat.pow_le_pow_right (n := 2) (by decide) (show 7 * n ≤ 56 by omega)
  have h2 := Nat.two_pow_pos (7 * n)
  constructor
  · exact_mod_cast h2
  · exact_mod_cast h1
/-- One group more. -/
theorem val_or (l : List Int) (c : Int) (h : l.length ≤ 8) : bits .or .i64 (Ref.val l) (c % 128 * 2 ^ (7 * l.length)) = Ref.val (l ++ [c]) := by
  have hb := val_bound l
  have hp := pow56 l.length h
  rw [val_snoc, pow128, bits_or_comm]
  rw [pow128] at hb
  generalize hq : (2 : Int) ^ (7 * l.length) = q at *
  have h1 : 0 ≤ c % 128 * q := Int.mul_nonneg (by omega) (by omega)
  have h2 : c % 128 * q ≤ 127 * q := Int.mul_le_mul_of_nonneg_right (by omega) (by omega)
  rw [bits_join .i64 63 (by decide) wraps_i64 (7 * l.length) (c % 128 * q) (Ref.val l) h1 (by rw [hq]; exact Int.mul_emod_left _ _) (by omega) hb.1 (by rw [hq]; exact hb.2) (by omega), Int.add_comm]
theorem andNot128 (c : Int) (h0 : 0 ≤ c) (h1 : c ≤ 255) : bits .andNot .u8 c 128 = c % 128 := by
  rw [u8_andNot c 128 h0 (by omega) (by decide) (by decide)]
  show ((c.toNat &&& 127 : Nat) : Int) = _
  rw [nat_mask7]; omega

theorem grp_in (c : Int) (k : Nat) (hk : k ≤ 8) : wrap64 (c % 128 * 2 ^ (7 * k)) = c % 128 * 2 ^ (7 * k) := by
  have hp := pow56 k hk
  generalize (2 : Int) ^ (7 * k) = q at *
  have h1 : 0 ≤ c % 128 * q := Int.mul_nonneg (by omega) (by omega)
  have h2 : c % 128 * q ≤ 127 * q := Int.mul_le_mul_of_nonneg_right (by omega) (by omega)
  exact IntWalk.wrap64_in _ ⟨by omega, by omega⟩
theorem ret_int {k : IntKind} {a b : Int} (h : a = b) : Ending.returned (.int k a) = .returned (.int k b) := by rw [h]
theorem val_int {k : IntKind} {a b : Int} (h : a = b) : Value.int k a = .int k b := by rw [h]

set_option maxHeartbeats 1000000 in
theorem value_any (v : Value) (zs : List Int) (w : World) (hs : Sl w v zs) (h9 : zs.length ≤ 9) :
    Calls Tryz.prog 112 #[v] w fun e w' => e = .returned (.int .i64 (Ref.val zs)) ∧ w' = w := by
  rcases Nat.eq_zero_or_pos zs.length with h0 | h0
  · obtain ⟨ao, cap, rfl, hc1, hc2⟩ := hs.shape
    have hz : zs = [] := List.eq_nil_of_length_eq_zero h0
    subst hz
    go_enter Tryz.func112, Tryz.ntmps112
    go_wp2
    refine wp_loop_rounds 1 ?_
    rw [rounds_succ]
    go_wp2
    go_ret
    exact ⟨rfl, rfl⟩
  · obtain ⟨b, off, cap, rfl, hc1, hc2, hc⟩ := hs.place h0
    have hbt := hs.1
    go_enter Tryz.func112, Tryz.ntmps112
    go_wp2
    go_loop [3, 8] (fun n i => ∃ k : Nat, k ≤ zs.length ∧ i = .int .i64 k ∧ n = .int .i64 (Ref.val (zs.take k))) (fun _ i => zs.length - (intOf i).toNat)
    case atStart => exact ⟨0, Nat.zero_le _, rfl, rfl⟩
    case round =>
      obtain ⟨k, hk, rfl, rfl⟩ := hrel
      by_cases hlt : k < zs.length
      · have hcell := hc k hlt
        have hr := hbt.at k
        simp only [List.getD_eq_getElem?_getD] at hcell
        have hk8 : k ≤ 8 := by omega
        have hts := take_snoc zs k hlt
        have htl : (zs.take k).length = k := by simp; omega
        have hor := val_or (zs.take k) (zs[k]?.getD 0) (by omega)
        rw [← hts, htl] at hor
        have HS := hide hor
        have hvb := val_bound (zs.take k)
        rw [htl, pow128] at hvb
        have hpw := pow56 k hk8
        clear hor hts htl hc
        generalize zs[k]?.getD 0 = c at *
        have hm := andNot128 c hr.1 hr.2
        go_wp2
        go_round
        case rel => exact ⟨k + 1, by omega, by go_num, val_int (by rw [← unhide HS, grp_in c k hk8])⟩
        case measure => simp [intOf]; omega
      · go_wp2
        go_ret
        exact ⟨ret_int (by rw [List.take_of_length_le (by omega)]), rfl⟩

/-- What ReadUint answers. -/
def RdPost (w : World) (r : Int × Int × Int) (e : Ending) (w' : World) : Prop :=
  e = .returned (.tuple #[.int .i64 r.1, .int .i64 r.2.1, .int .i64 r.2.2]) ∧ w' = w

theorem RdPost.mk {w : World} {r : Int × Int × Int} {a b c : Int} (h : r = (a, b, c)) : RdPost w r (.returned (.tuple #[.int .i64 a, .int .i64 b, .int .i64 c])) w := by
  subst h; exact ⟨rfl, rfl⟩

set_option maxHeartbeats 1000000 in
theorem readUint_any (v : Value) (zs : List Int) (at_ : Int) (w : World) (hs : Sl w v zs) :
    Calls Tryz.prog 95 #[v, .int .i64 at_] w (RdPost w (Ref.rd zs at_)) := by
  have hl := hs.len
  by_cases hbad : at_ < 0 ∨ (zs.length : Int) < at_
  · have HF := RdPost.mk (w := w) (show Ref.rd zs at_ = (0, 0, 1) by simp [Ref.rd, hbad])
    have HP := hide (from_no v zs at_ w hs hbad)
    generalize Ref.rd zs at_ = r at *
    clear hbad
    obtain ⟨ao, cap, rfl, hc1, hc2⟩ := hs.shape
    go_enter Tryz.func95, Tryz.ntmps95
    go_wp2_with fail
    refine (unhide HP).mono ?_
    rintro e w' ⟨rfl, rfl⟩
    go_wp2
    go_ret3
    exact HF
  · have h0 : 0 ≤ at_ := by omega
    have h1 : at_ ≤ zs.length := by omega
    have HP := hide (from_yes v zs at_ w hs h0 h1)
    have hnb := Ref.num_bytes (zs.drop at_.toNat) 0 (by omega)
    have hnl := Ref.num_le (zs.drop at_.toNat) 0
    have hrd : Ref.rd zs at_ = if (Ref.num 0 (zs.drop at_.toNat)).2 = 0 then (Ref.val ((zs.drop at_.toNat).take (Ref.num 0 (zs.drop at_.toNat)).1), at_ + (Ref.num 0 (zs.drop at_.toNat)).1, 0) else (0, 0, (Ref.num 0 (zs.drop at_.toNat)).2) := by
      simp [Ref.rd, hbad]
    have hdl : (zs.drop at_.toNat).length ≤ zs.length - at_.toNat := by simp
    have HRD := hide hrd
    clear hrd hbad
    generalize zs.drop at_.toNat = ys at *
    obtain ⟨ao, cap, rfl, hc1, hc2⟩ := hs.shape
    go_enter Tryz.func95, Tryz.ntmps95
    go_wp2_with fail
    refine (unhide HP).mono ?_
    rintro e w' ⟨v', rfl, rfl, hv'⟩
    have HN := hide (numeral_any v' ys w' hv')
    generalize Ref.num 0 ys = r at *
    go_wp2_with fail
    refine (unhide HN).mono ?_
    rintro e w'' ⟨v'', rfl, rfl, hv''⟩
    clear HN HP
    by_cases h2 : r.2 = 0
    · have HF := RdPost.mk (w := w'') ((unhide HRD).trans (if_pos h2))
      have hne : (r.2 != 0) = false := by simp [h2]
      have h9 := hv'' h2
      have hlen : (ys.take r.1).length = r.1 := by simp; omega
      have HV := hide (value_any v'' (ys.take r.1) w'' h9 (by omega))
      obtain ⟨ao2, cap2, rfl, hd1, hd2⟩ := h9.shape
      rw [hlen] at *
      have hr1 : r.1 ≤ 9 := hnb.1
      have hr2 : r.1 ≤ zs.length - at_.toNat := by omega
      generalize Ref.rd zs at_ = q at *
      clear HRD h2 hv' hv'' h9 hnb hnl hdl hlen
      go_wp2_with fail
      refine (unhide HV).mono ?_
      rintro e w3 ⟨rfl, rfl⟩
      go_wp2
      go_ret3
      exact HF
    · have HF := RdPost.mk (w := w'') ((unhide HRD).trans (if_neg h2))
      have hne : (r.2 != 0) = true := by simp [h2]
      generalize Ref.rd zs at_ = q at *
      clear HRD h2 hv' hv''
      go_wp2
      go_ret3
      exact HF
end Go.Proofs.YtdnkfnccbmbpaaaGreatDoor.Wi
/- The contracts of what makes bytes: wire.Uint and the document's Uint. -/
namespace Go.Proofs.YtdnkfnccbmbpaaaGreatDoor.Wi
open Go.RowKit

theorem Tryz.info5 : (Tryz.prog.info? 5).map (fun i => (i.zero, i.size, i.bytes)) = some (some (.int .u8 0), 1, 1) := by kernel_rfl

/-- The slice v, whose array the call has made (blocks from base on), holds the bytes zs. -/
def Own (w : World) (base : Nat) (v : Value) (zs : List Int) : Prop :=
  Byt zs ∧ zs.length ≤ 140737488355328 ∧ w.ownsRow base 5 1 v zs.length (zs.map (Value.int .u8))

theorem Own.sl {w : World} {base : Nat} {v : Value} {zs : List Int} (h : Own w base v zs) : Sl w v zs := by
  obtain ⟨h1, h2, h3⟩ := h
  have h3' := h3
  obtain ⟨_, hcase⟩ := h3
  refine ⟨h1, h2, ?_⟩
  rcases hcase with ⟨rfl, h0⟩ | ⟨g, cap, cur, hv, hg, hh, hn, hcap, hsz, htake⟩
  · exact .inl ⟨List.eq_nil_of_length_eq_zero h0, none, 0, rfl, by omega, fun _ => rfl⟩
  · refine .inr ⟨g, 0, cap, hv, hn, by unfold maxLen at hcap; omega, fun i hi => ?_⟩
    subst hv
    have := h3'.cellAt i (by omega)
    rw [Nat.zero_add]
    rw [this]
    simp [List.getD, hi]

theorem Byt.snoc {zs : List Int} (h : Byt zs) {c : Int} (h0 : 0 ≤ c) (h1 : c ≤ 255) : Byt (zs ++ [c]) := by
  intro z hz
  rcases List.mem_append.1 hz with hz | hz
  · exact h z hz
  · simp at hz; subst hz; exact ⟨h0, h1⟩

theorem Byt.nil : Byt [] := by intro z h; cases h

set_option maxRecDepth 100000 in
theorem u8_or128' (x : Int) : bits .or .u8 (x % 256) 128 = x % 128 + 128 := by
  rw [u8_or _ _ (by omega) (by omega) (by decide) (by decide)]
  have hx : (x % 256).toNat < 256 := by omega
  have : ∀ y : Nat, y < 256 → (y ||| 128 : Nat) = y % 128 + 128 := by decide
  show (((x % 256).toNat ||| 128 : Nat) : Int) = _
  rw [this _ hx]; omega

theorem one_u8 (c : Int) : ∀ u ∈ [Value.int .u8 c], u.oneCell' = true := by intro u hu; simp at hu; subst hu; rfl

theorem ub_step (f : Nat) (x : Int) (h : ¬ x < 128) : Ref.ub (f + 1) x = (x % 128 + 128) :: Ref.ub f (x / 128) := by simp [Ref.ub, h]
theorem ub_stop (f : Nat) (x : Int) (h : x < 128) : Ref.ub f x = [x] := by cases f <;> simp [Ref.ub, h]

theorem below_append {w wr w1 : World} {v : Value} {zs : List Int} {o : Obj} {B : Nat} (hB : B ≤ wr.heap.size) (hown : wr.ownsRow B 5 1 v zs.length (zs.map (Value.int .u8)))
    (hbel : Below B w wr) (hg : (wr.alloc o).grownBy w1 v.ownBlock) : Below B w w1 :=
  (hbel.alloc hB o).grown hg (by simp; omega) (fun k hk => (hown.lt k hk).1)

theorem uint_round {w wr w1 : World} {v v' : Value} {zs : List Int} {x n : Int} {o : Obj} (hge : 128 ≤ x) (hbt : Byt zs) (hz8 : zs.length ≤ 8) (hx : x < 2 ^ (7 * (9 - zs.length)))
    (hub : Ref.ub 8 n = zs ++ Ref.ub (8 - zs.length) x) (hxn : x ≤ n) (hsz : w.heap.size ≤ wr.heap.size) (hown : wr.ownsRow w.heap.size 5 1 v zs.length (zs.map (Value.int .u8))) (hbel : Below w.heap.size w wr)
    (hown' : w1.ownsRow w.heap.size 5 1 v' (zs.length + 1) (zs.map (Value.int .u8) ++ [.int .u8 (x % 128 + 128)])) (hg : (wr.alloc o).grownBy w1 v.ownBlock) :
    0 ≤ x / 128 ∧ x / 128 ≤ n ∧ (zs ++ [x % 128 + 128]).length ≤ 8 ∧ x / 128 < 2 ^ (7 * (9 - (zs ++ [x % 128 + 128]).length)) ∧
      w1.ownsRow w.heap.size 5 1 v' (zs ++ [x % 128 + 128]).length ((zs ++ [x % 128 + 128]).map (Value.int .u8)) ∧ Byt (zs ++ [x % 128 + 128]) ∧ Below w.heap.size w w1 ∧
      Ref.ub 8 n = (zs ++ [x % 128 + 128]) ++ Ref.ub (8 - (zs ++ [x % 128 + 128]).length) (x / 128) := by
  have h7 : zs.length ≤ 7 := by
    rcases Nat.lt_or_ge zs.length 8 with h | h
    · omega
    · have : zs.length = 8 := by omega
      rw [this] at hx
      simp at hx; omega
  have hl : (zs ++ [x % 128 + 128]).length = zs.length + 1 := by simp
  rw [hl]
  refine ⟨by omega, by omega, by omega, ?_, by simpa using hown', hbt.snoc (by omega) (by omega), below_append hsz hown hbel hg, ?_⟩
  · have e : 7 * (9 - zs.length) = 7 * (9 - (zs.length + 1)) + 7 := by omega
    rw [e, Int.pow_add] at hx
    generalize (2 : Int) ^ (7 * (9 - (zs.length + 1))) = q at *
    omega
  · rw [hub, show 8 - zs.length = (8 - (zs.length + 1)) + 1 by omega, ub_step _ _ (by omega)]
    simp

theorem uint_stop {w wr w1 : World} {v v' : Value} {zs : List Int} {x n : Int} {o : Obj} (hge : ¬ 128 ≤ x) (hx0 : 0 ≤ x) (hbt : Byt zs) (hz8 : zs.length ≤ 8)
    (hub : Ref.ub 8 n = zs ++ Ref.ub (8 - zs.length) x) (hsz : w.heap.size ≤ wr.heap.size) (hown : wr.ownsRow w.heap.size 5 1 v zs.length (zs.map (Value.int .u8))) (hbel : Below w.heap.size w wr)
    (hown' : w1.ownsRow w.heap.size 5 1 v' (zs.length + 1) (zs.map (Value.int .u8) ++ [.int .u8 x])) (hg : (wr.alloc o).grownBy w1 v.ownBlock) :
    Own w1 w.heap.size v' (Ref.ub 8 n) ∧ Below w.heap.size w w1 := by
  rw [hub, ub_stop _ _ (by omega)]
  exact ⟨⟨hbt.snoc (by omega) (by omega), by simp; omega, by simpa using hown'⟩, below_append hsz hown hbel hg⟩

set_option maxHeartbeats 1000000 in
theorem uint_any (n : Int) (w : World) (h63 : n ≤ 9223372036854775807) :
    Calls Tryz.prog 25 #[.int .i64 n] w fun e w' => ∃ v, e = .returned v ∧ Own w' w.heap.size v (Ref.uint n) ∧ Below w.heap.size w w' := by
  by_cases hneg : n < 0
  · have HU : Hid (Ref.uint n = []) := by simp [Hid, Ref.uint, hneg]
    go_enter Tryz.func25, Tryz.ntmps25
    go_wp2
    go_ret
    refine ⟨_, rfl, ?_, Below.refl _ _⟩
    rw [HU.out]
    exact ⟨Byt.nil, by simp, World.ownsRow_nil _ _ _ _⟩
  · have HU : Hid (Ref.uint n = Ref.ub 8 n) := by simp [Hid, Ref.uint, hneg]
    obtain ⟨i0, hi, hz0, hz1, hz2⟩ := info_parts Tryz.info5
    have hmk : ∀ w : World, (Instr.makeSlice 24 (.int .i64 0) (.int .i64 9)).run Tryz.prog w = .ok (.slice (some ⟨w.heap.size, 0, none⟩) 0 9) (w.alloc (.cells #[.int .u8 0, .int .u8 0, .int .u8 0, .int .u8 0, .int .u8 0, .int .u8 0, .int .u8 0, .int .u8 0, .int .u8 0] 5)) := fun _ => by kernel_rfl
    go_enter Tryz.func25, Tryz.ntmps25
    go_wp2
    go_loopw [0, 3] (fun x v wr => ∃ (x' : Int) (zs : List Int), x = .int .i64 x' ∧ 0 ≤ x' ∧ x' ≤ n ∧ zs.length ≤ 8 ∧ x' < 2 ^ (7 * (9 - zs.length)) ∧ wr.ownsRow w.heap.size 5 1 v zs.length (zs.map (Value.int .u8)) ∧ Byt zs ∧ Below w.heap.size w wr ∧ Ref.ub 8 n = zs ++ Ref.ub (8 - zs.length) x')
      (fun x _ _ => (intOf x).toNat)
    case atStart =>
      exact ⟨n, [], rfl, by omega, by omega, by simp, by simp; omega, World.ownsRow_made _ _ 9 (Nat.le_refl _) (by decide) (by simp), Byt.nil, (Below.refl _ _).alloc (Nat.le_refl _) _, by simp⟩
    case round =>
      obtain ⟨x, zs, rfl, hx0, hxn, hz8, hxp, hown, hbt, hbel, hub⟩ := hrel
      have HB := hide hub
      have HX := hide hxp
      clear hub hxp
      have hsz := hbel.size
      by_cases hge : 128 ≤ x
      · have hor := u8_or128' x
        go_wp2_with (first
          | (at_builtin; refine wpList_append_own _ rfl _ _ 24 rfl w.heap.size 5 i0 (.int .u8 0) 1 1 Tryz.underlying24 hi hz0 hz1 hz2 rfl (by decide) _ _ _ rfl (hown.alloc _) ⟨wr.heap.size, 0, none⟩ 1 1 [.int .u8 (x % 128 + 128)] rfl rfl (by rw [← hor]; exact cell_one_new _ _ _) (one_u8 _) (by unfold maxLen; omega) (by omega) (by simp; omega) ?_)
          | go_in)
        · intro v' w1 hown' hgrow _
          have R := uint_round hge hbt hz8 HX.out HB.out hxn hsz hown hbel hown' hgrow
          clear hown' hgrow hown hbel
          go_wp2
          go_roundw
          case rel => exact ⟨x / 128, zs ++ [x % 128 + 128], by go_num, R⟩
          case measure => simp [intOf]; omega
      · go_wp2_with (first
          | (at_builtin; refine wpList_append_own _ rfl _ _ 24 rfl w.heap.size 5 i0 (.int .u8 0) 1 1 Tryz.underlying24 hi hz0 hz1 hz2 rfl (by decide) _ _ _ rfl (hown.alloc _) ⟨wr.heap.size, 0, none⟩ 1 1 [.int .u8 x] rfl rfl (cell_one_new _ _ _) (one_u8 _) (by unfold maxLen; omega) (by omega) (by simp; omega) ?_)
          | go_in)
        · intro v' w1 hown' hgrow _
          have R := uint_stop (by omega) hx0 hbt hz8 HB.out hsz hown hbel hown' hgrow
          rw [← HU.out] at R
          clear hown' hgrow hown hbel
          go_wp2
          go_ret
          exact ⟨_, rfl, R⟩
end Go.Proofs.YtdnkfnccbmbpaaaGreatDoor.Wi
/- From bytes to a string. -/
namespace Go.Proofs.YtdnkfnccbmbpaaaGreatDoor.Wi
open Go.RowKit

theorem conv_zero (w : World) (ad : Addr) (c : Nat) : (convert 24 9 (.slice (some ad) 0 c)).run Tryz.prog w = .ok (.string (strOfNums [])) w := by
  rw [run_convert_bytes_string w 24 9 5 _ 0 c Tryz.underlying24 Tryz.underlying5 Tryz.underlying9, run_bytesToString w ad 0 c [] (run_loadCells_list (P := Tryz.prog) w ad [] (fun j v hj => by simp at hj))]
  rfl

theorem Sl.conv {w : World} {v : Value} {zs : List Int} (h : Sl w v zs) : (convert 24 9 v).run Tryz.prog w = .ok (.string (strOfNums zs)) w := by
  rcases h.2.2 with ⟨rfl, ao, cap, rfl, _, _⟩ | ⟨b, off, cap, rfl, hl, hm, hc⟩
  · cases ao with
    | none => rw [run_convert_bytes_nil w 24 5 Tryz.underlying24 Tryz.underlying5 0 cap 9 Tryz.underlying9]; rfl
    | some ad => exact conv_zero w ad cap
  · exact run_convert_bytes_arg w 24 5 Tryz.underlying24 Tryz.underlying5 b off zs.length cap zs rfl hc 9 Tryz.underlying9

/-- The slice as the source of an append. -/
theorem Sl.src {w : World} {v : Value} {zs : List Int} (h : Sl w v zs) : (zs = [] ∧ v = .slice none 0 0) ∨
    ∃ ad cap, v = .slice (some ad) zs.length cap ∧ ∀ j u, (zs.map (Value.int .u8))[j]? = some u → w.cell? (ad.add j) = some u := by
  rcases h.2.2 with ⟨rfl, ao, cap, rfl, _, hnil⟩ | ⟨b, off, cap, rfl, hl, hm, hc⟩
  · cases ao with
    | none => exact .inl ⟨rfl, by rw [hnil rfl]⟩
    | some ad => exact .inr ⟨ad, cap, rfl, fun j u hj => by simp at hj⟩
  · refine .inr ⟨_, cap, rfl, fun j u hj => ?_⟩
    have hjl : j < zs.length := by
      rcases Nat.lt_or_ge j zs.length with h | h
      · exact h
      · simp [List.getElem?_eq_none (show zs.length ≤ j from h)] at hj
    have hplain : (⟨b, off, none⟩ : Addr).add j = ⟨b, off + j, none⟩ := by unfold Addr.add; split <;> simp_all
    rw [hplain, hc j hjl]
    simp [List.getElem?_eq_getElem hjl] at hj
    simp [List.getD, List.getElem?_eq_getElem hjl, hj]

theorem ints_one (zs : List Int) : ∀ u ∈ zs.map (Value.int .u8), u.oneCell' = true := by
  intro u hu
  obtain ⟨z, _, rfl⟩ := List.mem_map.1 hu
  rfl

/-- The first bytes. -/
theorem Sl.head {w : World} {ao : Option Addr} {len cap k : Nat} {zs : List Int} (hs : Sl w (.slice ao len cap) zs) (hk : k ≤ len) (hl : len ≤ cap) : Sl w (.slice ao k cap) (zs.take k) := by
  have h := hs.cut (l := 0) (h := k) (m := cap) (by omega) (by omega) (by omega) (by omega)
  have e : sliced ao 0 k cap 1 = .slice ao k cap := by
    unfold sliced
    congr 1
    split
    · rfl
    · cases ao <;> simp [Addr.add]
  rw [e] at h
  simpa using h
end Go.Proofs.YtdnkfnccbmbpaaaGreatDoor.Wi
/- The contract of wire.ReadText. -/
namespace Go.Proofs.YtdnkfnccbmbpaaaGreatDoor.Wi.Ref
/-- ReadText. -/
def rt (zs : List Int) (at_ most : Int) : List Int × Int × Int :=
  if most < 0 then ([], 0, 1)
  else if (rd zs at_).2.2 ≠ 0 then ([], 0, (rd zs at_).2.2)
  else if most < (rd zs at_).1 then ([], 0, 3)
  else if (zs.length : Int) - (rd zs at_).2.1 < (rd zs at_).1 then ([], 0, 10)
  else ((zs.drop (rd zs at_).2.1.toNat).take (rd zs at_).1.toNat, (rd zs at_).2.1 + (rd zs at_).1, 0)
end Go.Proofs.YtdnkfnccbmbpaaaGreatDoor.Wi.Ref
namespace Go.Proofs.YtdnkfnccbmbpaaaGreatDoor.Wi
open Go.RowKit

theorem rd_ok (zs : List Int) (at_ : Int) (h : (Ref.rd zs at_).2.2 = 0) : 0 ≤ at_ ∧ at_ < (Ref.rd zs at_).2.1 ∧ (Ref.rd zs at_).2.1 ≤ zs.length ∧ 0 ≤ (Ref.rd zs at_).1 ∧ (Ref.rd zs at_).1 ≤ 9223372036854775807 := by
  unfold Ref.rd at *
  by_cases hb : at_ < 0 ∨ (zs.length : Int) < at_
  · rw [if_pos hb] at h; simp at h
  · rw [if_neg hb] at h ⊢
    by_cases h2 : (Ref.num 0 (zs.drop at_.toNat)).2 = 0
    · rw [if_pos h2]
      have h3 := Ref.num_bytes (zs.drop at_.toNat) 0 (by omega)
      have h4 := Ref.num_le (zs.drop at_.toNat) 0
      have h5 := h3.2.1 h2
      have h6 := val_bound ((zs.drop at_.toNat).take (Ref.num 0 (zs.drop at_.toNat)).1)
      simp only [List.length_drop] at h4
      have h7 : ((zs.drop at_.toNat).take (Ref.num 0 (zs.drop at_.toNat)).1).length ≤ 9 := by
        rw [List.length_take]; omega
      have h8 : (128 : Int) ^ ((zs.drop at_.toNat).take (Ref.num 0 (zs.drop at_.toNat)).1).length ≤ 128 ^ 9 := by
        exact_mod_cast Nat.pow_le_pow_right (n := 128) (by decide) h7
      generalize (128 : Int) ^ ((zs.drop at_.toNat).take (Ref.num 0 (zs.drop at_.toNat)).1).length = q at *
      simp only
      omega
    · rw [if_neg h2] at h; exact absurd h h2

/-- What ReadText answers. -/
def RtPost (w : World) (r : List Int × Int × Int) (e : Ending) (w' : World) : Prop :=
  e = .returned (.tuple #[.string (strOfNums r.1), .int .i64 r.2.1, .int .i64 r.2.2]) ∧ w' = w

theorem RtPost.mk {w : World} {r : List Int × Int × Int} {a : List Int} {b c : Int} (h : r = (a, b, c)) : RtPost w r (.returned (.tuple #[.string (strOfNums a), .int .i64 b, .int .i64 c])) w := by
  subst h; exact ⟨rfl, rfl⟩

theorem RtPost.no {w : World} {r : List Int × Int × Int} {c : Int} (h : r = ([], 0, c)) : RtPost w r (.returned (.tuple #[.string ⟨#[]⟩, .int .i64 0, .int .i64 c])) w := RtPost.mk h

set_option maxHeartbeats 1000000 in
theorem readText_any (v : Value) (zs : List Int) (at_ most : Int) (w : World) (hs : Sl w v zs) :
    Calls Tryz.prog 108 #[v, .int .i64 at_, .int .i64 most] w (RtPost w (Ref.rt zs at_ most)) := by
  have hl := hs.len
  have HR := hide (readUint_any v zs at_ w hs)
  by_cases hm : most < 0
  · have HF := RtPost.no (w := w) (show Ref.rt zs at_ most = ([], 0, 1) by simp [Ref.rt, hm])
    generalize Ref.rt zs at_ most = r at *
    obtain ⟨ao, cap, rfl, hc1, hc2⟩ := hs.shape
    clear HR
    go_enter Tryz.func108, Tryz.ntmps108
    go_wp2
    go_ret3
    exact HF
  · by_cases he : (Ref.rd zs at_).2.2 ≠ 0
    · have HF := RtPost.no (w := w) (show Ref.rt zs at_ most = ([], 0, (Ref.rd zs at_).2.2) by simp [Ref.rt, hm, he])
      have hne : ((Ref.rd zs at_).2.2 != 0) = true := by simpa using he
      generalize Ref.rt zs at_ most = r at *
      clear he
      obtain ⟨ao, cap, rfl, hc1, hc2⟩ := hs.shape
      generalize Ref.rd zs at_ = q at *
      go_enter Tryz.func108, Tryz.ntmps108
      go_wp2_with fail
      refine (unhide HR).mono ?_
      rintro e w' ⟨rfl, rfl⟩
      go_wp2
      go_ret3
      exact HF
    · have he' : (Ref.rd zs at_).2.2 = 0 := by simpa using he
      have hok := rd_ok zs at_ he'
      have hne : ((Ref.rd zs at_).2.2 != 0) = false := by simp [he']
      have hrt : Ref.rt zs at_ most = if most < (Ref.rd zs at_).1 then ([], 0, 3) else if (zs.length : Int) - (Ref.rd zs at_).2.1 < (Ref.rd zs at_).1 then ([], 0, 10) else ((zs.drop (Ref.rd zs at_).2.1.toNat).take (Ref.rd zs at_).1.toNat, (Ref.rd zs at_).2.1 + (Ref.rd zs at_).1, 0) := by
        rw [Ref.rt, if_neg hm, if_neg he]
      clear he he'
      have HT := hide hrt
      clear hrt
      generalize Ref.rd zs at_ = q at *
      by_cases hmany : most < q.1
      · have HF := RtPost.no (w := w) ((unhide HT).trans (if_pos hmany))
        generalize Ref.rt zs at_ most = r at *
        obtain ⟨ao, cap, rfl, hc1, hc2⟩ := hs.shape
        clear HT
        go_enter Tryz.func108, Tryz.ntmps108
        go_wp2_with fail
        refine (unhide HR).mono ?_
        rintro e w' ⟨rfl, rfl⟩
        go_wp2
        go_ret3
        exact HF
      · have HT2 := hide ((unhide HT).trans (if_neg hmany))
        by_cases hsh : (zs.length : Int) - q.2.1 < q.1
        · have HF := RtPost.no (w := w) ((unhide HT2).trans (if_pos hsh))
          have HP := hide (piece_no v zs q.2.1 q.1 w hs (by omega) (by omega) hsh)
          generalize Ref.rt zs at_ most = r at *
          obtain ⟨ao, cap, rfl, hc1, hc2⟩ := hs.shape
          clear HT HT2
          go_enter Tryz.func108, Tryz.ntmps108
          go_wp2_with fail
          refine (unhide HR).mono ?_
          rintro e w' ⟨rfl, rfl⟩
          go_wp2_with fail
          refine (unhide HP).mono ?_
          rintro e w' ⟨rfl, rfl⟩
          go_wp2
          go_ret3
          exact HF
        · have HF := RtPost.mk (w := w) ((unhide HT2).trans (if_neg hsh))
          have HP := hide (piece_yes v zs q.2.1 q.1 w hs (by omega) (by omega) (by omega) (by omega))
          generalize (zs.drop q.2.1.toNat).take q.1.toNat = ys at *
          generalize Ref.rt zs at_ most = r at *
          obtain ⟨ao, cap, rfl, hc1, hc2⟩ := hs.shape
          clear HT HT2
          go_enter Tryz.func108, Tryz.ntmps108
          go_wp2_with fail
          refine (unhide HR).mono ?_
          rintro e w' ⟨rfl, rfl⟩
          go_wp2_with fail
          refine (unhide HP).mono ?_
          rintro e w' ⟨v', rfl, rfl, hv'⟩
          have hcv := hv'.conv
          obtain ⟨ao2, cap2, rfl, _, _⟩ := hv'.shape
          clear HP HR
          go_wp2
          go_ret3
          exact HF
end Go.Proofs.YtdnkfnccbmbpaaaGreatDoor.Wi
/- The contract of wire.Text. -/
namespace Go.Proofs.YtdnkfnccbmbpaaaGreatDoor.Wi
open Go.RowKit

/-- A string's bytes as numbers. -/
def nums (s : ByteArray) : List Int := s.data.toList.map fun b => (b.toNat : Int)

theorem nums_length (s : ByteArray) : (nums s).length = s.size := by
  rw [nums, List.length_map, Array.length_toList]; rfl
theorem nums_byt (s : ByteArray) : Byt (nums s) := by
  intro z hz
  obtain ⟨b, _, rfl⟩ := List.mem_map.1 hz
  have := b.toNat_lt
  omega
theorem nums_cells (s : ByteArray) : Lib.strCells s = (nums s).map (Value.int .u8) := by
  simp [Lib.strCells, nums]
theorem strOf_nums (s : ByteArray) : strOfNums (nums s) = s := by
  apply ByteArray.ext
  apply Array.toList_inj.1
  rw [strOfNums_data, nums, List.map_map]
  conv => rhs; rw [← List.map_id s.data.toList]
  apply List.map_congr_left
  intro x _
  simp
theorem ub_len (f : Nat) (n : Int) : (Ref.ub f n).length ≤ f + 1 := by
  induction f generalizing n with
  | zero => simp [Ref.ub]
  | succ f ih =>
    have := ih (n / 128)
    simp only [Ref.ub]
    split
    · simp
    · simp; omega
theorem uint_len (n : Int) : (Ref.uint n).length ≤ 9 := by
  unfold Ref.uint
  split
  · simp
  · exact ub_len 8 n

theorem Byt.append {a b : List Int} (h : Byt a) (k : Byt b) : Byt (a ++ b) := by
  intro z hz
  rcases List.mem_append.1 hz with hz | hz
  · exact h z hz
  · exact k z hz

set_option maxHeartbeats 400000 in
theorem text_any (s : ByteArray) (w : World) (hs : s.size ≤ 140737488351232) :
    Calls Tryz.prog 106 #[.string s] w fun e w' => ∃ v, e = .returned v ∧ Own w' w.heap.size v (Ref.uint s.size ++ nums s) ∧ Below w.heap.size w w' := by
  obtain ⟨i0, hi, hz0, hz1, hz2⟩ := info_parts Tryz.info5
  have hul := uint_len s.size
  go_enter Tryz.func106, Tryz.ntmps106
  go_wp2_with fail
  refine (uint_any _ _ (by omega)).mono ?_
  rintro e w1 ⟨v, rfl, hown, hb⟩
  have hsz := hb.size
  have ho := hown.2.2
  go_wp2_with (at_builtin; refine Lib.wpList_append_own_string _ rfl (.tmp 5) (.tmp 6) 24 9 rfl w.heap.size 5 i0 Tryz.underlying24 Tryz.underlying9 hi hz0 hz1 hz2 _ _ _ rfl ho s rfl (by unfold maxLen; omega) (by omega) hsz ?_)
  intro v2 w2 hown2 hg2 _
  have R : Own w2 w.heap.size v2 (Ref.uint s.size ++ nums s) ∧ Below w.heap.size w w2 := by
    refine ⟨⟨hown.1.append (nums_byt s), by simp [nums_length]; omega, ?_⟩, hb.grown hg2 hsz (fun k hk => (ho.lt k hk).1)⟩
    rw [List.length_append, nums_length, List.map_append, ← nums_cells]
    exact hown2
  clear hown2 hg2 ho hown
  go_wp2
  go_ret
  exact ⟨_, rfl, R⟩
end Go.Proofs.YtdnkfnccbmbpaaaGreatDoor.Wi
